import PyProof.Rows.All
import Wide.All
import OpenK.AllK
import Wide.FinOn
import KE.OsRunLaw
import HandS.ForMost
import HandS.ForExc
import HandS.ExcField
import HandS.ExcInit
import HandS.DictComp
import HandS.Lambda
import HandS.IsInst
import HandS.MakeKwOnly
import HandS.EndTab
import HandS.EndOwn
import HandS.More
import PyProof.NeKinds
import HandS.ExcIs
import HandS.ExcOwn
import HandS.ExcValue
import KE.KExcStr
import KE.KExcIs
import KE.KDictOf
import PyProof.DictUpdate
import PyProof.Tail
import HandS.NoneIn
import HandS.SortInts
import HandS.SetFor
import HandS.Strs
import KE.KDictCopyH
import HandS.DictEq
import HandS.Walk
import HandS.Conv
import HandS.DictTup
import HandS.SetKeys
import HandS.TupAny
import PySem.Challenge.RW_pageclass_k04_regions_walked
namespace HP
open PySem PySem.W PySem.Calls PyProof.Rows
/-- the objects that a proof reads, as the tactic has found them -/
structure Fr (T : Prop) where
  K : Params → Frag
  as : List Addr
  ek : ∀ P, as = (K P).map (·.1)
  idn : (kHook K as ek = kHook K as ek) → T → T
/-- the run of a law's top, from the boot, and what is looked at behind it -/
def Run (p : Program) (recs : WRecords) (q : Program) (loose : List PySem.Str) (M : Nat) (K : Params → Frag) (as : List Addr) (v w : World) : Prop :=
  (HeadRun.wholeF (fun p' => HeadRun.stepQ (HeadRun.denQ HeadRun.tabQ) p' v) HeadRun.fenceQ M p).map
    (fun x => (HeadRun.looksF p x.1.heap x.2.abs, HeadRun.seenQ q loose (importedModules p.main.body) (fun s => xlAt q [] s && recOk recs s) x.2.abs, as.map (HeadRun.getT x.2)))
  = some (true, openGood q loose, (K w.params).map fun x => some x.2)
theorem head {r : OpenRow} {q : Program} {loose : List PySem.Str} {M : Nat} {K : Params → Frag} {as : List Addr} {ek : ∀ P, as = (K P).map (·.1)} {d : DefRec} {kwd : List (PySem.Str × PySem.Expr)}
    (run : ∀ w, Run r.prog r.toRowW.records q loose M K as w w) (h1 : defOf q r.name = some (d, kwd)) (h2 : r.prog.theDef r.name = some (d.params, d.body, d.scope))
    (h3 : kwWritten? d.params.kwonlyargs d.params.kw_defaults = some kwd) (h4 : (!r.writes || r.records.isEmpty) = true) (h5 : r.wellSaid = true)
    (h6 : (chainsOk q && opensWell r.prog && (frees r.toRowW && r.within.isEmpty)) = true) (h7 : r.prog.bare) (h8 : r.toRowW.promised)
    (call : WalkO q loose (XL q []) (Hook.says (kHook K as ek)) r.toRowW d kwd fun f vs => PySem.call f vs) : r.Holds := by
  have left : LeftO r.prog q loose (fun s => xlAt q [] s && recOk r.toRowW.records s) (Hook.obs (kHook K as ek)) (Hook.val (kHook K as ek)) M true := HeadRun.left_impK (ek := ek) run
  refine holds_open (q := q) (loose := loose) (XP := XL q []) (YP := Hook.says (kHook K as ek)) (d := d) (kwd := kwd) left (Hook.of _) (Hook.keeps _) (fun s z => ?_) XL.keeps h1 h2 h3 (fun s z => ?_) h4 h5 h6 h7 h8 call
  · exact xl_of s (Bool.and_eq_true_iff.mp z).1
  · exact recFacts_of (Bool.and_eq_true_iff.mp z).2
/-- the i-th statement's def -/
def topDef (p : Program) (i : Nat) : DefRec := match p.main.body[i]? with
  | some (.FunctionDef n a b _ _ _ sc _ _ pos) => ⟨n, a, b, sc, pos⟩
  | _ => ⟨"law", ⟨[], [], none, [], [], none, []⟩, [], ⟨.function, [], false, false, []⟩, default⟩
end HP
set_option Elab.async false
set_option linter.all false
section
open PySem PySem.W PyProof.Rows
set_option maxRecDepth 100000
set_option maxHeartbeats 0
section
local macro_rules | `(tactic| o_headL $H) => `(tactic| (rename _ = _ => e; have _e2 : $H = $H := e; assumption))
noncomputable def HP.fr : HP.Fr PySem.Challenge.rw_pageclass_k04_regions_walked.row.Holds := by
  apply HP.Fr.mk
  intro e t
  k_headL
end
def HP.names0 : List PySem.Str := ["PageError", "NoSystem", "NoProcess", "NoPages", "NotMapped", "NoFile", "Taken", "NoLock", "NoCharge", "PAGES", "FILE_PAGES", "ZEROS"]
def HP.names1 : List PySem.Str := ["RIGHTS", "FLAGS", "Item", "Page", "with_rights", "with_flags", "with_lock", "with_held", "with_stamp", "attributes", "is_file_page", "has_object"]
def HP.names2 : List PySem.Str := ["has_file", "History", "free_position", "arrange_locked", "add_locked", "put_first", "this_step", "forget_class", "shows_nothing", "count_page", "count_lock", "discount_page"]
def HP.names3 : List PySem.Str := ["discount_user", "replace_pages", "end_step", "is_integer", "is_word", "require", "table_of", "numbers_of", "require_mapped", "require_unlocked", "file_of", "capacity"]
def HP.names4 : List PySem.Str := ["unit_of_charge", "charge_units", "charge_of", "require_capacity", "require_charge", "require_source", "place_for", "map_pages", "new_pages", "unmap", "protect", "flags_with"]
def HP.names5 : List PySem.Str := ["flag", "move", "continues", "regions", "free_runs", "lowest_gap", "System", "new_process", "unmap_all", "end_process", "spawn", "child_page"]
def HP.names6 : List PySem.Str := ["pages_of_child", "fork", "leave", "fresh", "processes", "is_name", "new_pages_of_file", "create", "_law_cell_at", "_law_well", "_law_draw", "_law_one"]
def HP.names7 : List PySem.Str := ["_law_fits", "_law_regions", "_law_alive", "_law_mapped", "_law_range", "_law_changed", "_law_ended", "_law_step"]
abbrev HP.names : List PySem.Str := HP.names0 ++ (HP.names1 ++ (HP.names2 ++ (HP.names3 ++ (HP.names4 ++ (HP.names5 ++ (HP.names6 ++ (HP.names7
)))))))
abbrev HP.R : OpenRow := PySem.Challenge.rw_pageclass_k04_regions_walked.row
abbrev HP.qv : Program := view HP.R.prog [0, 104]
theorem HP.run (w : World) : HP.Run HP.R.prog HP.R.toRowW.records HP.qv HP.names 12000 HP.fr.K HP.fr.as w w := by
  show (_ : Option _) = _
  kernel_rfl
end
set_option Elab.async false
set_option linter.all false
set_option maxRecDepth 100000
set_option maxHeartbeats 4000000
namespace L2
open PySem PySem.Spec PyProof.Rows
section
variable {X : Cx}
/-- an expression that no way reaches -/
theorem pe_nev {e : Expr} : PE X e (fun _ _ _ => False) := ⟨fun _ _ _ _ _ _ z => z.elim⟩
theorem pts_nev {es : List Expr} : PTs X es (fun _ _ _ => False) := ⟨fun _ _ _ _ _ _ z => z.elim⟩
theorem sw_dict {kx vx : Expr} {gs : List Comprehension} {scope : Scope} {pos py : Pos} {y : Str} {l : Nat} {env : Env}
    (fk : env.scope.kind = .function) (fy : env.scope.names.lookup y = some .local) (fl : (py.line == pos.line) = true)
    (fa : (scope.names.any fun (n, k) => n == y && (k == .local || k == .cell)) = false) :
    swapsWith (.DictComp kx vx gs scope pos) (some (.Name y py)) l env = pure true := by
  have q1 : env.kindOf y = some .local := fy
  have q2 : env.blockKind = .function := by
    unfold Env.blockKind
    rw [fk]
    rfl
  unfold swapsWith
  simp only [q1, q2, fa, fl, Expr.pos]
  rfl
theorem ps_setDc {i : Nat} {y : Str} {py : Pos} {kx vx tg iter : Expr} {ifs : List Expr} {scope : Scope} {own : List (Str × Nat)} {pos spos : Pos}
    {wi : TI} {g : TG} {tt : TT} {tk tv : TE} (hc : X.calm = true) (hN : X.N.Nodup) (hy : X.N[i]? = some y)
    (hyl : X.env.scope.names.lookup y = some .local)
    (hsw : swapsWith (.DictComp kx vx [⟨tg, iter, ifs, 0⟩] scope pos) (some (.Name y py)) spos.line X.env = pure true)
    (hi : PI X tg iter wi) (ok : BlkOk X.N X.env.scope scope own)
    (hg : ∀ (s : Shared) (H : Hp) (C : Addr) (cl : List (Str × Addr)) (fp : List Addr),
      PG (X.blk s H scope (compEnvC scope cl C X.env) fp) tg g)
    (ht : ∀ (s : Shared) (H : Hp) (C : Addr) (cl : List (Str × Addr)) (fp : List Addr),
      PTs (X.blk s H scope (compEnvC scope cl C X.env) fp) ifs tt)
    (hk : ∀ (s : Shared) (H : Hp) (C : Addr) (cl : List (Str × Addr)) (fp : List Addr),
      PE (X.blk s H scope (compEnvC scope cl C X.env) fp) kx tk)
    (he : ∀ (s : Shared) (H : Hp) (C : Addr) (cl : List (Str × Addr)) (fp : List Addr),
      PE (X.blk s H scope (compEnvC scope cl C X.env) fp) vx tv)
    (hs : ∀ x, foldedSetIterable iter X.env x = pure x := by intro _; rfl) :
    PS X (.Assign [.Name y py] (.DictComp kx vx [⟨tg, iter, ifs, 0⟩] scope pos) spos)
      (tAsg (tDc wi g tt tk tv (own.map (·.2))) (gName i)) := by
  refine ⟨fun pins s σ H D I h => ?_⟩
  rw [exec_Assign_Name_used _ _ _ _ hsw]
  refine wpAny_bind (wpAny_standAt (wpAny_bind ?_))
  show wpAny _ X.A (do
    let _ ← comprehension (.DictComp kx vx [⟨tg, iter, ifs, 0⟩] scope pos) scope X.env (firstIterPos [⟨tg, iter, ifs, 0⟩] pos)
      newDict false (eval iter X.env) (some (assign (.Name y py) X.env))) _ _ s
  have h' : tDc wi g tt tk tv (own.map (·.2)) σ H (fun x H1 => gName i x σ H1 D.nx) := h
  refine wpAny_bind (thn (dc_core (Qf := fun _ s' => SP X pins D .next s') hc hN I hi ok hg ht hk he hs h'
    fun L C s' m H' J q hn f => ?_) fun _ s' hq => wpAny_pure (wpAny_pure hq))
  show wpAny _ _ (assign (.Name y py) X.env (.ref L)) _ _ _
  refine wpAny_assign_Name (store_ok2 (v := V.ref L) J hN hy (.inl hyl) rfl (fun s2 J2 ⟨a, sb, ha⟩ => ?_) (.inr hyl))
  obtain ⟨f0, f1, f2, f3, f4, f5⟩ := f
  have hne : C ≠ a := by
    rcases ha with z | z
    · rw [z]
      exact f1
    · exact fun e => f4 y a z e.symm
  exact ⟨m, hn.sameBut sb hne, fun h3 sb3 =>
    ⟨_, H', J2.turned (t' := s2.toks) (fun b o hb e => (sb3.2 b hb).trans e) f0 f1 f3 f4 f5, q⟩⟩
end
structure FunC (K : PySem.W.Frag) (x qual : Str) (st : Stmt) (f : Addr) (fd : FuncData) (co : Addr) : Prop where
  ex : ∃ (oc : Value) (od : Option Addr) (kV doc pm : Value) (an : Option Addr) (ct : Value) (osl : Array (Option Value)),
    fd = PySem.W.fnOf x qual (defArgs st) (defBody st) (defScope st) .none kV doc pm an (.ref co) ct ∧
      K.lookup f = some ⟨oc, od, .func fd, osl⟩ ∧ PySem.W.codeIn K (.ref co) qual = true
theorem FunC.ok {P : Program} {w : World} {K : PySem.W.Frag} {mg : Str → Option Value} {base : Heap} {x qual : Str} {st : Stmt} {f co : Addr} {fd : FuncData} {N ps : List Str} {k : Nat} {sp : Sp}
    (F : FunC K x qual st f fd co) (S : FnScope N ps (defScope st)) (len : ∀ vs H Q E, sp vs H Q E → vs.length = ps.length)
    (hbody : ∀ (A : Around) (outer : List Env) (s : Shared) (H : Hp) (vs : List V) (Q : VK) (E : XK),
      Room k (A.deeper (envOfC qual (defScope st) s.heap.objs.size f (.ref co))) → sp vs H Q E →
      ∃ t, PSs (cxOf CX0 P w K mg base N qual (defScope st) f (.ref co) A outer s H E).nox (defBody st) t ∧
        t { nx := fun _ H' => Q .non H', rt := Q } (L2.start N vs) H) : FnOk P w K mg base CX0 (k + 1) f fd ps sp := by
  obtain ⟨oc, od, kV, doc, pm, an, ct, osl, rfl, lk, hcd⟩ := F.ex
  refine fn_of lk hcd S len fun A outer s H vs Q E hr hsp => ?_
  obtain ⟨t, h, q⟩ := hbody A outer s H vs Q E hr hsp
  exact ⟨t, h.nox, q⟩
open LamX in
theorem Tabs.keep {T : List (Addr × Str)} {H H' : Hp} (t : Tabs T H) (h : ∀ b o, H b = some o → (∀ u, o = .ext u → H' b = some o) ∧ (∀ ps, o = .tbl ps → H' b = some o)) : Tabs T H' := fun p hp => by
  obtain ⟨ps, h1, h2, h3⟩ := t p hp
  refine ⟨ps, (h _ _ h1).2 _ rfl, h2, fun pos cv hc => ?_⟩
  obtain ⟨c, e1, e2⟩ := h3 pos cv hc
  exact ⟨c, e1, (h _ _ e2).1 _ rfl⟩
end L2
set_option Elab.async false
set_option linter.all false
set_option maxRecDepth 100000
set_option maxHeartbeats 4000000
namespace L2
open PySem PySem.Spec PyProof.Rows
end L2
set_option Elab.async false
set_option linter.all false
set_option maxRecDepth 100000
set_option maxHeartbeats 4000000
namespace L2
open PySem PySem.Spec PyProof.Rows
section
variable {prog : Program} {w : World} {A : Around} {E : Value → Shared → Prop} {s : Shared}
/-- one pair put -/
theorem put_one {d : Addr} {kvs : List (Key × Value)} {k : Key} {key v : Value} {Q : Unit → Shared → Prop} (isK : (mixKind prog w).is k key = true) (at_ : s.heap.DictOf (mixKind prog w) d kvs) (few : kvs.length ≤ sizeLine)
    (then_ : ∀ h', h'.DictOf (mixKind prog w) d (stored kvs k v) → Heap.SameBut d s.heap h' → Q () { s with heap := h' }) :
    wpAny (model prog w) A (dictPut d ((mixKind prog w).hash k) key v) Q E s := by
  rcases at_ with ⟨ob, ents, epoch, here, exact_, data, keys, pairs, nodup⟩
  have small : ents.size ≤ sizeLine := by
    have z := pairs.length
    rw [Array.length_toList] at z
    omega
  unfold dictPut
  refine wpAny_bind (wpAny_dictFind_of isK here data keys ?_)
  have same : (ents.findIdx? fun x => (mixKind prog w).is k x.key) = kvs.findIdx? fun kv => decide (kv.1 = k) := by
    rw [← pairs.findIdx k]
    cases ents
    simp
  cases found : ents.findIdx? fun x => (mixKind prog w).is k x.key with
  | some i =>
    have isIn := any_of_findIdx_some (same ▸ found)
    refine wpAny_updateDict here data (then_ _ ⟨_, _, epoch, Heap.get?_update_self _ here (Obj.isFreed_of_dict (Obj.data_mapDict data _)), exact_.mapDict _, Obj.data_mapDict data _, keys.modify _ _, ?_, ?_⟩ (Heap.SameBut.update ..))
    · have z : (ents.toList.findIdx? fun x => (mixKind prog w).is k x.key) = some i := by
        rw [← found]
        cases ents
        simp
      have y := pairs.modify nodup z v
      rw [stored, if_pos isIn]
      cases ents
      simpa using y
    · rw [stored, if_pos isIn, keys_map_store]
      exact nodup
  | none =>
    have out := not_mem_of_findIdx_none (same ▸ found)
    have isOut : ¬ (kvs.any fun kv => decide (kv.1 = k)) = true := fun z => by
      obtain ⟨kv, m, e⟩ := List.any_eq_true.mp z
      exact out (List.mem_map.mpr ⟨kv, m, of_decide_eq_true e⟩)
    refine wpAny_updateDictKeys (hz := small) here data (then_ _ ⟨_, _, epoch + 1, Heap.get?_update_self _ here (Obj.isFreed_of_dict (Obj.data_mapDictKeys data _)), exact_.mapDictKeys _, Obj.data_mapDictKeys data _, keys.push isK _, ?_, ?_⟩ (Heap.SameBut.update ..))
    · have y := pairs.append isK ((mixKind prog w).hash k) v
      rw [stored, if_neg isOut]
      cases ents
      simpa using y
    · rw [stored, if_neg isOut, List.map_append]
      refine List.nodup_append.mpr ⟨nodup, by simp, fun x hx y hy => ?_⟩
      have : y = k := by simpa using hy
      rw [this]
      exact fun z => out (z ▸ hx)
/-- all pairs of the dict at o put into the one at d -/
theorem merge_all {d o : Addr} {kvs more : List (Key × Value)} {Q : Unit → Shared → Prop} (ne : d ≠ o) (no : (o == sysModules) = false) (atD : s.heap.DictOf (mixKind prog w) d kvs) (atO : s.heap.DictOf (mixKind prog w) o more)
    (few : kvs.length + more.length ≤ sizeLine) (then_ : ∀ h', h'.DictOf (mixKind prog w) d (merged kvs more) → Heap.SameBut d s.heap h' → Q () { s with heap := h' }) :
    wpAny (model prog w) A (mergeMapping d (.ref o) false) Q E s := by
  rcases id atD with ⟨obD, entsD, epochD, hereD, exactD, dataD, keysD, pairsD, nodupD⟩
  rcases id atO with ⟨obO, entsO, epochO, hereO, exactO, dataO, keysO, pairsO, nodupO⟩
  have len : more.length = entsO.size := by
    rw [← pairsO.length]
    simp
  unfold mergeMapping
  refine wpAny_bind (wpAny_isInstance atO.typeIs isSubtype_dict_dict ?_)
  rw [if_pos rfl]
  refine wpAny_bind (wpAny_specialOf atO.typeIs F.slot_dict_iter.lookup ?_)
  refine wpAny_bind (wpAny_pure ?_)
  simp only [beq_self_eq_true]
  rw [if_neg (by rw [no]; exact Bool.false_ne_true)]
  refine wpAny_bind (wpAny_dictEntries hereD dataD ?_)
  -- the walk
  have walk : wpAny (model prog w) A (do
      let l ← dictEntries o
      let epoch ← dictEpoch o
      forIn (List.range l.size) PUnit.unit fun i (_ : PUnit) => (do
        let l' ← dictEntries o
        match l'[i]? with
          | some e => do
            holding [e.key, e.val] (dictPut d e.hash e.key e.val)
            let ep' ← dictEpoch o
            if (ep' != epoch) = true then do
                (unsupported "dict.changed-during-merge" : Sem PUnit)
                pure (ForInStep.yield PUnit.unit)
              else pure (ForInStep.yield PUnit.unit)
          | _ => do
            (unsupported "dict.changed-during-merge" : Sem PUnit)
            pure (ForInStep.yield PUnit.unit) : Sem (ForInStep PUnit))
      pure ()) Q E s := by
    refine wpAny_bind (wpAny_dictEntries hereO dataO (wpAny_bind (wpAny_dictEpoch hereO dataO (wpAny_bind ?_))))
    refine wpAny_forIn_list _
      (fun rest _ s' => ∃ h' i, s' = { s with heap := h' } ∧ rest = List.range' i (entsO.size - i) ∧ i ≤ entsO.size ∧ h'.DictOf (mixKind prog w) d (merged kvs (more.take i)) ∧ h'.get? o = some obO ∧ Heap.SameBut d s.heap h')
      _ ?_ ?_ _ _ ⟨s.heap, 0, rfl, by rw [List.range_eq_range', Nat.sub_zero], Nat.zero_le _, by simpa [merged] using atD, hereO, Heap.SameBut.refl _ _⟩
    · rintro x rest _ _ ⟨h', i, rfl, er, le, atD', hereO', sb⟩
      have lt : i < entsO.size := by
        by_cases z : i < entsO.size
        · exact z
        · rw [show entsO.size - i = 0 by omega] at er
          cases er
      rw [show entsO.size - i = (entsO.size - (i + 1)) + 1 by omega, List.range'_succ] at er
      injection er with e1 e2
      subst e1 e2
      refine wpAny_bind (wpAny_dictEntries hereO' dataO ?_)
      rw [Array.getElem?_eq_getElem lt]
      obtain ⟨⟨k, v⟩, pair⟩ : ∃ kv, more[x]? = some kv := ⟨more[x]'(by rw [len]; exact lt), List.getElem?_eq_getElem _⟩
      obtain ⟨isK, isV⟩ := pairsO.get? (e := entsO[x]) (by simp [lt]) pair
      obtain ⟨k', isK', hash⟩ := keysO entsO[x] (Array.getElem_mem lt)
      have ek : k' = k := (mixKind prog w).inj _ _ _ isK' isK
      subst ek
      show wpAny _ _ (holding [entsO[x].key, entsO[x].val] (dictPut d entsO[x].hash entsO[x].key entsO[x].val) >>= _) _ _ _
      rw [hash, isV]
      have few' : (merged kvs (more.take x)).length ≤ sizeLine := by
        have z := merged_length_le kvs (more.take x)
        rw [List.length_take] at z
        omega
      refine wpAny_bind (wpAny_holding (put_one isK atD' few' fun h'' atD'' sb' => ?_))
      have hereO'' := (sb'.2 o (Ne.symm ne)).trans hereO'
      refine wpAny_bind (wpAny_dictEpoch hereO'' dataO ?_)
      rw [if_neg (by simp)]
      exact wpAny_pure ⟨h'', x + 1, rfl, rfl, lt, by rw [merged_take_succ kvs more x (k', v) pair]; exact atD'', hereO'', sb.trans sb'⟩
    · rintro _ _ ⟨h', i, rfl, er, le, atD', hereO', sb⟩
      have ei : i = more.length := by
        by_cases z : i < entsO.size
        · rw [show entsO.size - i = (entsO.size - (i + 1)) + 1 by omega, List.range'_succ] at er
          cases er
        · omega
      rw [ei, List.take_length] at atD'
      exact wpAny_pure (then_ h' atD' sb)
  split
  · refine wpAny_bind (wpAny_dictEntries hereO dataO (wpAny_bind ?_))
    refine wpAny_forIn_array' _ (fun rest _ s' => s' = s ∧ ∀ x ∈ rest, x ∈ entsO) _ ?_ ?_ _ _ ⟨rfl, fun x hx => by simpa using hx⟩
    · rintro x rest _ _ ⟨rfl, mem⟩
      obtain ⟨k, isK, _⟩ := keysO x (mem x List.mem_cons_self)
      have go : ∀ {v : Value}, (mixKind prog w).is k v = true → ∀ a, v ≠ .ref a := fun {v} z a e => by
        rcases keyIs_shape z with ⟨i, t, _, y⟩ | ⟨i, t, _, y⟩ <;> rw [e] at y <;> cases y
      split
      · rename_i a ea
        exact absurd ea (go isK a)
      · exact wpAny_pure ⟨rfl, fun y hy => mem y (List.mem_cons_of_mem _ hy)⟩
    · rintro _ _ ⟨rfl, _⟩
      exact walk
  · exact walk
end
section
variable {X : Cx} {e1 e2 : Expr} {pos : Pos} {t1 t2 : TE}
/-- {**a, **b} -/
def tStar2 (t1 t2 : TE) : TE := fun σ H Q => ∀ p, H p = none → t1 σ (upd H p (.dK [])) fun x H1 => ∃ a ks, x = .ref a ∧ a ≠ p ∧ H1 a = some (.dK ks) ∧ H1 p = some (.dK []) ∧
  t2 σ (upd H1 p (.dK (mergeK [] ks))) fun y H2 => ∃ b ls, y = .ref b ∧ b ≠ p ∧ H2 b = some (.dK ls) ∧ H2 p = some (.dK (mergeK [] ks)) ∧ ks.length + ls.length ≤ sizeLine ∧ Q (.ref p) (upd H2 p (.dK (mergeK (mergeK [] ks) ls)))
/-- the dict at a merged into the one at p -/
theorem in_one {pins : List (Addr × Obj)} {σ : St} {H : Hp} {s : Shared} {Q : Unit → Shared → Prop} {E : Value → Shared → Prop} {a p : Addr} {ks ls : List (Key × V)} (I : Inv X pins σ H s) (ea : H a = some (.dK ls)) (ep : H p = some (.dK ks)) (ne : a ≠ p) (few : ks.length + ls.length ≤ sizeLine)
    (then_ : ∀ s', Inv X pins σ (upd H p (.dK (mergeK ks ls))) s' → Q () s') : wpAny (model X.prog X.w) X.A (mergeMapping p (.ref a) false) Q E s := by
  obtain ⟨z1, n1, vs, k1, d1⟩ := dk_of I.hok ea
  obtain ⟨z2, n2, us, k2, d2⟩ := dk_of I.hok ep
  have l1 : ls.length = vs.length := Paired.length k1
  have l2 : ks.length = us.length := Paired.length k2
  refine merge_all (Ne.symm ne) n1 d2 d1 (by omega) fun h' dd sb => then_ _ ?_
  have some_ : ∃ q, h'.get? p = some q := let ⟨q, _, _, hq, _⟩ := dd; ⟨q, hq⟩
  exact d_write I (by rw [ep]; exact True.intro) sb some_ (dk_new (by have := length_mergeK ls ks; omega) n2 (k1.merge k2) dd)
theorem tried {A : Around} {M : Model} {s : Shared} {m : Sem Unit} {k1 k2 k3 : Value → Sem Unit} {Q : Unit → Shared → Prop} {E : Value → Shared → Prop} (h : ∀ E', wpAny M A m Q E' s) : wpAny M A (((m.onRaise k1).tryCatch k2).onRaise k3) Q E s :=
  wpAny_onRaise (wpAny_tryCatch (wpAny_onRaise (h _)))
theorem pe_star2 (h1 : PE X e1 t1) (h2 : PE X e2 t2) : PE X (.Dict [none, none] [e1, e2] pos) (tStar2 t1 t2) := by
  constructor
  intro pins s σ H Q I wish
  rw [arm_eval_Dict]
  refine wpAny_bind (wpAny_standAt ?_)
  show wpAny _ _ (dictDisplay [(none, do let x ← eval e1 X.env; standAt pos; pure x), (none, do let x ← eval e2 X.env; standAt pos; pure x)]) _ _ s
  unfold dictDisplay
  simp only [List.forIn_cons, List.forIn_nil, List.isEmpty_nil, if_true, pure_bind, bind_assoc]
  have free := I.hok.fresh (Nat.le_refl s.heap.objs.size)
  have I1 := I.laid (a := s.heap.objs.size) (o := .dK []) (h' := s.heap.push { cls := .type "dict", data := .dict #[] }) (t' := s.toks) (fun _ _ z => Heap.get?_push_of_some _ z) (Nat.le_refl _) (dk_empty s.heap I.big)
  refine wpAny_bind (wpAny_alloc (wpAny_bind (wpAny_holding (wpAny_bind (thn (h1.run pins _ σ _ _ I1 (wish _ free)) ?_)))))
  rintro u1 s1 ⟨x, H1, I2, r1, a, ks, rfl, na, ea, ep, w1⟩
  cases (show u1 = Value.ref a from r1)
  refine wpAny_bind (wpAny_standAt (wpAny_pure (wpAny_bind (tried fun E' => wpAny_holding (in_one I2 ea ep na ?_ fun s2 I3 => ?_)))))
  · obtain ⟨z1, _⟩ := dk_of I2.hok ea
    simpa using z1
  refine wpAny_bind (wpAny_holding (wpAny_bind (thn (h2.run pins _ σ _ _ I3 w1) ?_)))
  rintro u2 s3 ⟨y, H2, I4, r2, b, ls, rfl, nb, eb, ep2, few, w2⟩
  cases (show u2 = Value.ref b from r2)
  refine wpAny_bind (wpAny_standAt (wpAny_pure (wpAny_bind (tried fun E' => wpAny_holding (in_one I4 eb ep2 nb ?_ fun s4 I5 => wpAny_pure ⟨.ref _, _, I5, rfl, w2⟩)))))
  have := length_mergeK ks []
  simp at this
  omega
end
end L2
set_option Elab.async false
set_option linter.all false
set_option maxRecDepth 100000
set_option maxHeartbeats 4000000
namespace My
open PySem L2
theorem iteD {p : Prop} [Decidable p] {A B : Prop} (h1 : p → A) (h2 : ¬ p → B) : if decide p = true then A else B := by
  by_cases h : p
  · rw [decide_eq_true h, if_pos rfl]
    exact h1 h
  · rw [decide_eq_false h, if_neg Bool.false_ne_true]
    exact h2 h
theorem iteT {A B : Prop} (h : A) : if true = true then A else B := h
theorem iteF {A B : Prop} (h : B) : if false = true then A else B := h
theorem iteB {b : Bool} {A B : Prop} (h1 : b = true → A) (h2 : b = false → B) : if b = true then A else B := by
  cases b with
  | true => exact h1 rfl
  | false => exact h2 rfl
theorem upd_none {H : Hp} {a p : Addr} {o : HO} (h : upd H a o p = none) : p ≠ a ∧ H p = none := by
  by_cases e : p = a
  · subst e; rw [upd_same] at h; cases h
  · rw [upd_ne e] at h; exact ⟨e, h⟩
def But (a : Addr) (H H' : Hp) : Prop := ∀ b o, b ≠ a → H b = some o → H' b = some o
theorem Same.new {H : Hp} {p : Addr} {o : HO} (h : H p = none) : Same H (upd H p o) := fun b u e => by rw [upd_ne (ne_of_none e h)]; exact e
theorem But.of {a : Addr} {H H' : Hp} (h : Same H H') : But a H H' := fun b o _ e => h b o e
theorem But.up {a : Addr} {H : Hp} {o : HO} : But a H (upd H a o) := fun b u n e => by rw [upd_ne n]; exact e
theorem But.trans {a : Addr} {H H1 H2 : Hp} (x : But a H H1) (y : But a H1 H2) : But a H H2 := fun b o n e => y b o n (x b o n e)
theorem Same.free {H H' : Hp} (s : Same H H') {b : Addr} (h : H' b = none) : H b = none := by
  cases e : H b with
  | none => rfl
  | some o => rw [s b o e] at h; cases h
structure DI (kvs : List (Key × V)) (f : Int → Option V) : Prop where
  isI : ∀ kv ∈ kvs, ∃ i : Int, kv.1 = Sum.inl i
  nod : (kvs.map (·.1)).Nodup
  val : ∀ i : Int, valV kvs (Sum.inl i) = f i
theorem mem_put {kvs : List (Key × V)} {k : Key} {v : V} {q : Key × V} (h : q ∈ putK kvs k v) : q ∈ kvs ∨ q = (k, v) := by
  unfold putK at h
  split at h
  · obtain ⟨z, hz, e⟩ := List.mem_map.mp h
    split at e
    · rename_i ek
      rw [← e, ek]
      exact .inr rfl
    · rw [← e]
      exact .inl hz
  · rcases List.mem_append.mp h with z | z
    · exact .inl z
    · exact .inr (List.mem_singleton.mp z)
theorem val_mem {kvs : List (Key × V)} {k : Key} {v : V} (h : valV kvs k = some v) : (k, v) ∈ kvs := by
  unfold valV at h
  cases e : kvs.find? (fun kv => decide (kv.1 = k)) with
  | none => rw [e] at h; cases h
  | some q =>
    rw [e] at h
    have h1 := List.find?_some e
    have h2 := List.mem_of_find?_eq_some e
    have e1 : q.1 = k := by simpa using h1
    have e2 : q.2 = v := Option.some.inj h
    rw [← e1, ← e2]
    exact h2
theorem mem_val {kvs : List (Key × V)} (nd : (kvs.map (·.1)).Nodup) {k : Key} {v : V} (h : (k, v) ∈ kvs) : valV kvs k = some v := by
  induction kvs with
  | nil => cases h
  | cons q r ih =>
    rw [List.map_cons, List.nodup_cons] at nd
    rcases List.mem_cons.mp h with e | h
    · subst e
      exact valV_pos rfl
    · rw [valV_neg (fun e => nd.1 (List.mem_map.mpr ⟨(k, v), h, e.symm⟩))]
      exact ih nd.2 h
theorem val_drop (k j : Key) : ∀ kvs : List (Key × V), valV (dropK kvs k) j = if j = k then none else valV kvs j
  | [] => by
    show valV ([] : List (Key × V)) j = _
    split <;> rfl
  | q :: r => by
    have ih := val_drop k j r
    unfold dropK at ih ⊢
    rw [List.filter_cons]
    by_cases e : q.1 = k
    · rw [if_neg (by simp [e]), ih]
      by_cases z : j = k
      · rw [if_pos z, if_pos z]
      · rw [if_neg z, if_neg z, valV_neg (fun y => z (y.symm.trans e))]
    · rw [if_pos (by simp [e])]
      by_cases z : q.1 = j
      · rw [valV_pos z, if_neg (fun y => e (z.trans y)), valV_pos z]
      · rw [valV_neg z, ih]
        by_cases y : j = k
        · rw [if_pos y, if_pos y]
        · rw [if_neg y, if_neg y, valV_neg z]
theorem keys_put (kvs : List (Key × V)) (k : Key) (v : V) : (putK kvs k v).map (·.1) = if (valV kvs k).isSome = true then kvs.map (·.1) else kvs.map (·.1) ++ [k] := by
  have e := valV_any k kvs
  unfold putK
  rw [← e]
  split
  · rw [List.map_map]
    refine List.map_congr_left fun q _ => ?_
    show (if q.1 = k then (q.1, v) else q).1 = q.1
    split <;> rfl
  · rw [List.map_append]
    rfl
section
variable {kvs : List (Key × V)} {f : Int → Option V}
theorem DI.nil : DI [] (fun _ => none) := ⟨fun _ h => (nomatch h), List.nodup_nil, fun _ => rfl⟩
theorem DI.put (h : DI kvs f) (i : Int) (v : V) : DI (putK kvs (Sum.inl i) v) (fun j => if j = i then some v else f j) := by
  refine ⟨fun kv hkv => ?_, ?_, fun j => ?_⟩
  · rcases mem_put hkv with z | z
    · exact h.isI kv z
    · rw [z]; exact ⟨i, rfl⟩
  · rw [keys_put]
    split
    · exact h.nod
    · rename_i hn
      refine List.nodup_append.mpr ⟨h.nod, by simp, fun a ha b hb => ?_⟩
      rw [List.mem_singleton.mp hb]
      intro e
      obtain ⟨q, hq, eq⟩ := List.mem_map.mp ha
      refine hn ?_
      have : valV kvs (Sum.inl i) = some q.2 := mem_val h.nod (by rw [← e, ← eq]; exact hq)
      rw [this]
      rfl
  · rw [valV_put]
    by_cases e : j = i
    · rw [if_pos (by rw [e]), if_pos e]
    · rw [if_neg (fun z => e (Sum.inl.inj z)), if_neg e]
      exact h.val j
theorem DI.drop (h : DI kvs f) (i : Int) : DI (dropK kvs (Sum.inl i)) (fun j => if j = i then none else f j) := by
  refine ⟨fun kv hkv => h.isI kv (List.mem_filter.mp hkv).1, ?_, fun j => ?_⟩
  · exact h.nod.sublist (List.Sublist.map _ List.filter_sublist)
  · rw [val_drop]
    by_cases e : j = i
    · rw [if_pos (by rw [e]), if_pos e]
    · rw [if_neg (fun z => e (Sum.inl.inj z)), if_neg e]
      exact h.val j
theorem DI.cong {g : Int → Option V} (h : DI kvs f) (e : ∀ i, f i = g i) : DI kvs g := ⟨h.isI, h.nod, fun i => (h.val i).trans (e i)⟩
theorem DI.mem (h : DI kvs f) {i : Int} {v : V} (hm : ((Sum.inl i : Key), v) ∈ kvs) : f i = some v := by rw [← h.val]; exact mem_val h.nod hm
theorem DI.of_mem (h : DI kvs f) {q : Key × V} (hm : q ∈ kvs) : ∃ i : Int, q.1 = Sum.inl i ∧ f i = some q.2 := by
  obtain ⟨i, e⟩ := h.isI q hm
  exact ⟨i, e, h.mem (by rw [← e]; exact hm)⟩
/-- its keys as ints -/
def intsOf (kvs : List (Key × V)) : List Int := kvs.map fun q => match q.1 with
  | .inl i => i
  | .inr _ => 0
theorem DI.keys (h : DI kvs f) : kvs.map (·.1) = (intsOf kvs).map Sum.inl := by
  unfold intsOf
  rw [List.map_map]
  refine List.map_congr_left fun q hq => ?_
  obtain ⟨i, e⟩ := h.isI q hq
  show q.1 = Sum.inl (match q.1 with | .inl i => i | .inr _ => 0)
  rw [e]
theorem DI.nodI (h : DI kvs f) : (intsOf kvs).Nodup := by
  have := h.nod
  rw [h.keys] at this
  exact List.Pairwise.imp (fun hne e => hne (by rw [e])) (List.pairwise_map.mp this)
theorem DI.memI (h : DI kvs f) (i : Int) : i ∈ intsOf kvs ↔ (f i).isSome = true := by
  constructor
  · intro hi
    obtain ⟨q, hq, e⟩ := List.mem_map.mp hi
    obtain ⟨j, e1, e2⟩ := h.of_mem hq
    rw [e1] at e
    simp only at e
    subst e
    rw [e2]
    rfl
  · intro hi
    obtain ⟨v, ev⟩ := Option.isSome_iff_exists.mp hi
    have hm := val_mem ((h.val i).trans ev)
    exact List.mem_map.mpr ⟨_, hm, rfl⟩
theorem intsOf_length : (intsOf kvs).length = kvs.length := by unfold intsOf; rw [List.length_map]
end
theorem le_lt {ys : List Int} (h : ys.Pairwise (· ≤ ·)) (nd : ys.Nodup) : ys.Pairwise (· < ·) := by
  have h2 : ys.Pairwise (fun a b => a ≤ b ∧ a ≠ b) := h.and nd
  exact h2.imp fun {a b} z => by omega
theorem lt_uniq : ∀ {xs ys : List Int}, xs.Pairwise (· < ·) → ys.Pairwise (· < ·) → (∀ i, i ∈ xs ↔ i ∈ ys) → xs = ys
  | [], [], _, _, _ => rfl
  | [], y :: ys, _, _, h => absurd ((h y).mpr List.mem_cons_self) (by simp)
  | x :: xs, [], _, _, h => absurd ((h x).mp List.mem_cons_self) (by simp)
  | x :: xs, y :: ys, h1, h2, h => by
    obtain ⟨a1, a2⟩ := List.pairwise_cons.mp h1
    obtain ⟨b1, b2⟩ := List.pairwise_cons.mp h2
    have e : x = y := by
      rcases List.mem_cons.mp ((h x).mp List.mem_cons_self) with z | z
      · exact z
      · have := b1 x z
        rcases List.mem_cons.mp ((h y).mpr List.mem_cons_self) with w | w
        · exact w.symm
        · have := a1 y w
          omega
    subst e
    rw [lt_uniq a2 b2 fun i => ?_]
    constructor
    · intro hi
      have l := a1 i hi
      rcases List.mem_cons.mp ((h i).mp (List.mem_cons_of_mem _ hi)) with z | z
      · omega
      · exact z
    · intro hi
      have l := b1 i hi
      rcases List.mem_cons.mp ((h i).mpr (List.mem_cons_of_mem _ hi)) with z | z
      · omega
      · exact z
/-- the numbers below n with a property, ascending -/
def upTo (n : Nat) (p : Int → Bool) : List Int := ((List.range n).map fun (j : Nat) => (j : Int)).filter p
theorem upTo_lt (n : Nat) (p : Int → Bool) : (upTo n p).Pairwise (· < ·) := by
  unfold upTo
  refine List.Pairwise.filter _ (List.pairwise_map.mpr ?_)
  exact List.pairwise_lt_range.imp fun {a b} h => by omega
theorem upTo_mem {n : Nat} {p : Int → Bool} {i : Int} : i ∈ upTo n p ↔ (0 ≤ i ∧ i < n) ∧ p i = true := by
  unfold upTo
  rw [List.mem_filter]
  refine and_congr_left fun _ => ?_
  rw [List.mem_map]
  constructor
  · rintro ⟨j, hj, rfl⟩
    have := List.mem_range.mp hj
    omega
  · rintro ⟨h0, h1⟩
    exact ⟨i.toNat, List.mem_range.mpr (by omega), by omega⟩
theorem upTo_length (n : Nat) (p : Int → Bool) : (upTo n p).length ≤ n := by
  unfold upTo
  have := List.length_filter_le p ((List.range n).map fun (j : Nat) => (j : Int))
  rw [List.length_map, List.length_range] at this
  exact this
theorem sorted_is {kvs : List (Key × V)} {f : Int → Option V} (h : DI kvs f) {n : Nat} (hd : ∀ i, (f i).isSome = true → 0 ≤ i ∧ i < n) {ys : List Int} (hp : ys.Perm (intsOf kvs)) (hs : ys.Pairwise (· ≤ ·)) : ys = upTo n fun i => (f i).isSome := by
  have nd : ys.Nodup := hp.nodup_iff.mpr h.nodI
  refine lt_uniq (le_lt hs nd) (upTo_lt _ _) fun i => ?_
  rw [upTo_mem, hp.mem_iff, h.memI]
  constructor
  · intro z
    exact ⟨hd i z, z⟩
  · exact fun z => z.2
theorem nod_len : ∀ (n : Nat) (ys : List Int), ys.Nodup → (∀ y ∈ ys, 0 ≤ y ∧ y < n) → ys.length ≤ n
  | 0, [], _, _ => Nat.le_refl _
  | 0, y :: ys, _, h => by
    have := h y List.mem_cons_self
    omega
  | n + 1, ys, nd, h => by
    by_cases hm : (n : Int) ∈ ys
    · have ih := nod_len n (ys.erase (n : Int)) (nd.erase _) fun y hy => by
        have a := (nd.mem_erase_iff).mp hy
        have b := h y a.2
        have := a.1
        omega
      rw [List.length_erase_of_mem hm] at ih
      omega
    · have ih := nod_len n ys nd fun y hy => by
        have b := h y hy
        have : y ≠ n := fun e => hm (e ▸ hy)
        omega
      omega
theorem fm_congr {α β : Type} {f g : α → Option β} : ∀ {l : List α}, (∀ x ∈ l, f x = g x) → l.filterMap f = l.filterMap g
  | [], _ => rfl
  | x :: r, h => by
    rw [List.filterMap_cons, List.filterMap_cons, h x List.mem_cons_self, fm_congr fun y hy => h y (List.mem_cons_of_mem _ hy)]
theorem DI.len {kvs : List (Key × V)} {f : Int → Option V} (h : DI kvs f) {n : Nat} (hd : ∀ i, (f i).isSome = true → 0 ≤ i ∧ i < n) : kvs.length ≤ n := by
  have := nod_len n (intsOf kvs) h.nodI fun i hi => hd i ((h.memI i).mp hi)
  rw [intsOf_length] at this
  exact this
def sumN (n : Nat) (g : Int → Nat) : Nat := ((List.range n).map fun (j : Nat) => g (j : Int)).sum
theorem sumN_succ (n : Nat) (g : Int → Nat) : sumN (n + 1) g = sumN n g + g n := by
  unfold sumN
  rw [List.range_succ, List.map_append, List.sum_append]
  simp
theorem sumN_cong {n : Nat} {g h : Int → Nat} (e : ∀ j : Int, 0 ≤ j → j < n → g j = h j) : sumN n g = sumN n h := by
  induction n with
  | zero => rfl
  | succ n ih =>
    rw [sumN_succ, sumN_succ, ih (fun j a b => e j a (by omega)), e n (by omega) (by omega)]
theorem sumN_upd {n : Nat} {g h : Int → Nat} {i : Int} (h0 : 0 ≤ i) (h1 : i < n) (e : ∀ j : Int, j ≠ i → g j = h j) : sumN n h + g i = sumN n g + h i := by
  induction n with
  | zero => omega
  | succ n ih =>
    rw [sumN_succ, sumN_succ]
    by_cases z : i = n
    · rw [sumN_cong (g := g) (h := h) fun j a b => e j (by omega), z]
      omega
    · have := ih (by omega)
      rw [e n (Ne.symm z)]
      omega
theorem sumN_zero {n : Nat} {g : Int → Nat} : sumN n g = 0 ↔ ∀ j : Int, 0 ≤ j → j < n → g j = 0 := by
  induction n with
  | zero => exact ⟨fun _ j a b => by omega, fun _ => rfl⟩
  | succ n ih =>
    rw [sumN_succ]
    constructor
    · intro h j a b
      by_cases z : j = n
      · rw [z]; omega
      · exact ih.mp (by omega) j a (by omega)
    · intro h
      have a := ih.mpr fun j a b => h j a (by omega)
      have b := h n (by omega) (by omega)
      omega
theorem sumN_pos {n : Nat} {g : Int → Nat} : 0 < sumN n g ↔ ∃ j : Int, 0 ≤ j ∧ j < n ∧ 0 < g j := by
  constructor
  · intro h
    by_cases z : ∃ j : Int, 0 ≤ j ∧ j < n ∧ 0 < g j
    · exact z
    · have : sumN n g = 0 := sumN_zero.mpr fun j a b => by
        by_cases w : g j = 0
        · exact w
        · exact absurd ⟨j, a, b, by omega⟩ z
      omega
  · rintro ⟨j, a, b, c⟩
    by_cases z : sumN n g = 0
    · have := sumN_zero.mp z j a b
      omega
    · omega
inductive Src where
  | non | file (n : Str) | obj (k : Int)
  deriving DecidableEq
/-- merge, stay, wipe -/
structure Fl where
  m : Bool
  s : Bool
  w : Bool
  deriving DecidableEq
def flL (f : Fl) : List Str := (if f.m = true then ([("merge" : Str)] : List Str) else []) ++ ((if f.s = true then ([("stay" : Str)] : List Str) else []) ++ (if f.w = true then ([("wipe" : Str)] : List Str) else []))
structure Pg where
  r : Str
  sh : Bool
  src : Src
  ix : Option Int
  fl : Fl
  deriving DecidableEq
def isObj : Src → Bool
  | .obj _ => true
  | _ => false
structure WfP (g : Pg) : Prop where
  sh : g.sh = true → g.src ≠ .non
  ob : ∀ k, g.src = .obj k → g.sh = true
  ix : g.src ≠ .non → ∃ i, g.ix = some i ∧ 0 ≤ i ∧ i < 512
  no : g.src = .non → g.ix = none
  okR : PyData.strOk g.r = true
  okN : ∀ n, g.src = .file n → PyData.strOk n = true
abbrev Tb := Int → Option Pg
def srcR (H : Hp) (v : V) : Src → Prop
  | .non => v = .non
  | .file n => ∃ a, v = .ref a ∧ H a = some (.tup [.str "file", .str n])
  | .obj k => ∃ a, v = .ref a ∧ H a = some (.tup [.str "object", .int k])
def ixV : Option Int → V
  | none => .non
  | some i => .int i
def pageF (r s so i f h st : V) : List (Str × V) := [("rights", r), ("shared", s), ("source", so), ("index", i), ("flags", f), ("held", h), ("stamp", st)]
def PgR (CP : Addr) (H : Hp) (p : Addr) (g : Pg) : Prop := ∃ (dx : Addr × Int) (sv : V) (fa : Addr), H p = some (.ins CP dx.1 (pageF (.str g.r) (.bl g.sh) sv (ixV g.ix) (.ref fa) .non (.int dx.2))) ∧ srcR H sv g.src ∧ H fa = some (.tup ((flL g.fl).map V.str))
/-- whether a page shows the page i of the object k -/
def showsO (k i : Int) (g : Pg) : Bool := g.sh && decide (g.src = .obj k) && decide (g.ix = some i)
def cntO (k i : Int) : Option Pg → Nat
  | some g => if showsO k i g = true then 1 else 0
  | none => 0
@[irreducible] def cntT (P : Tb) (k i : Int) : Nat := sumN 512 fun n => cntO k i (P n)
def occ (L : List Pg) (k i : Int) : Nat := (L.map fun g => cntO k i (some g)).sum
theorem occ_cons (g : Pg) (L : List Pg) (k i : Int) : occ (g :: L) k i = cntO k i (some g) + occ L k i := by
  unfold occ
  rw [List.map_cons, List.sum_cons]
theorem occ_append (L M : List Pg) (k i : Int) : occ (L ++ M) k i = occ L k i + occ M k i := by
  unfold occ
  rw [List.map_append, List.sum_append]
def setT (P : Tb) (n : Int) (x : Option Pg) : Tb := fun j => if j = n then x else P j
theorem cntT_none (k i : Int) : cntT (fun _ => none) k i = 0 := by
  unfold cntT
  exact sumN_zero.mpr fun j _ _ => rfl
theorem cntT_set {P : Tb} {n : Int} {x : Option Pg} (h0 : 0 ≤ n) (h1 : n < 512) (k i : Int) : cntT (setT P n x) k i + cntO k i (P n) = cntT P k i + cntO k i x := by
  have := sumN_upd (n := 512) (g := fun j => cntO k i (P j)) (h := fun j => cntO k i (setT P n x j)) (i := n) h0 (by omega) (fun j hj => by simp only [setT, if_neg hj])
  simp only [setT, if_pos] at this
  unfold cntT
  exact this
/-- changes, one after the other -/
def appT (P : Tb) (ch : List (Int × Option Pg)) : Tb := ch.foldl (fun Q q => setT Q q.1 q.2) P
theorem appT_cons (P : Tb) (q : Int × Option Pg) (ch : List (Int × Option Pg)) : appT P (q :: ch) = appT (setT P q.1 q.2) ch := rfl
theorem appT_cnt : ∀ (ch : List (Int × Option Pg)) (P : Tb), (ch.map (·.1)).Nodup → (∀ q ∈ ch, 0 ≤ q.1 ∧ q.1 < 512) → ∀ k i, cntT (appT P ch) k i + occ (ch.filterMap fun q => P q.1) k i = cntT P k i + occ (ch.filterMap (·.2)) k i
  | [], P, _, _, k, i => rfl
  | q :: r, P, nd, hb, k, i => by
    rw [List.map_cons, List.nodup_cons] at nd
    have ih := appT_cnt r (setT P q.1 q.2) nd.2 (fun z hz => hb z (List.mem_cons_of_mem _ hz)) k i
    have e : r.filterMap (fun z => setT P q.1 q.2 z.1) = r.filterMap fun z => P z.1 := fm_congr fun z hz => by
      show (if z.1 = q.1 then q.2 else P z.1) = P z.1
      rw [if_neg fun e => nd.1 (List.mem_map.mpr ⟨z, hz, e⟩)]
    rw [e] at ih
    have c := cntT_set (P := P) (x := q.2) (hb q List.mem_cons_self).1 (hb q List.mem_cons_self).2 k i
    rw [appT_cons]
    have o1 : occ ((q :: r).filterMap fun z => P z.1) k i = cntO k i (P q.1) + occ (r.filterMap fun z => P z.1) k i := by
      rw [List.filterMap_cons]
      cases hq : P q.1 with
      | none => simp [cntO]
      | some g => simp only [occ_cons]
    have o2 : occ ((q :: r).filterMap (·.2)) k i = cntO k i q.2 + occ (r.filterMap (·.2)) k i := by
      rw [List.filterMap_cons]
      cases hq : q.2 with
      | none => simp [cntO]
      | some g => simp only [occ_cons]
    omega
theorem occ_old : ∀ (ch : List (Int × Option Pg)) (P : Tb), (ch.map (·.1)).Nodup → (∀ q ∈ ch, 0 ≤ q.1 ∧ q.1 < 512) → ∀ k i, occ (ch.filterMap fun q => P q.1) k i ≤ cntT P k i := fun ch P nd hb k i => by
  have h := appT_cnt (ch.map fun q => (q.1, none)) P (by rw [List.map_map]; exact nd) (fun q hq => by
    obtain ⟨z, hz, rfl⟩ := List.mem_map.mp hq
    exact hb z hz) k i
  have e1 : (ch.map fun q => (q.1, (none : Option Pg))).filterMap (fun q => P q.1) = ch.filterMap fun q => P q.1 := by
    rw [List.filterMap_map]
    rfl
  have e2 : (ch.map fun q => (q.1, (none : Option Pg))).filterMap (·.2) = [] := by
    rw [List.filterMap_map]
    exact List.filterMap_eq_nil_iff.mpr fun _ _ => rfl
  rw [e1, e2] at h
  have : occ [] k i = 0 := rfl
  omega
theorem appT_out {ch : List (Int × Option Pg)} {P : Tb} {n : Int} (h : ∀ q ∈ ch, q.1 ≠ n) : appT P ch n = P n := by
  induction ch generalizing P with
  | nil => rfl
  | cons q r ih =>
    rw [appT_cons, ih fun z hz => h z (List.mem_cons_of_mem _ hz)]
    show (if n = q.1 then q.2 else P n) = P n
    rw [if_neg fun e => h q List.mem_cons_self e.symm]
theorem appT_in {ch : List (Int × Option Pg)} {P : Tb} (nd : (ch.map (·.1)).Nodup) {n : Int} {x : Option Pg} (h : (n, x) ∈ ch) : appT P ch n = x := by
  induction ch generalizing P with
  | nil => cases h
  | cons q r ih =>
    rw [List.map_cons, List.nodup_cons] at nd
    rw [appT_cons]
    rcases List.mem_cons.mp h with e | h
    · subst e
      rw [appT_out fun z hz e => nd.1 (List.mem_map.mpr ⟨z, hz, e⟩)]
      show (if n = n then x else P n) = x
      rw [if_pos rfl]
    · exact ih nd.2 h
end My
set_option Elab.async false
set_option linter.all false
set_option maxRecDepth 100000
set_option maxHeartbeats 4000000
namespace L2
open PySem PySem.Spec PyProof.Rows
section
variable {X : Cx}
def rSortedDL : List V → Hp → VK → Prop := fun xs H Q => ∃ (a : Addr) (kvs : List (Key × V)) (ks : List Int), xs = [.ref a] ∧ Rd H a (.dK kvs) ∧ kvs.map (·.1) = ks.map Sum.inl ∧
  ∀ (ys : List Int) (p : Addr), ys.Perm ks → ys.Pairwise (· ≤ ·) → H p = none → Q (.ref p) (upd H p (.lst (ys.map V.int)))
theorem call_sortedDL (hcalm : X.calm = true) : CallR X (.builtin "sorted") rSortedDL := by
  intro pins s σ H xs us Q I r q
  obtain ⟨a, kvs, ks, ex, hd, hks, q⟩ := q
  subst ex
  obtain ⟨u, eu, rx⟩ := vals1 r
  subst eu
  cases rx
  obtain ⟨z, lo, vs, rel, dd⟩ := dk_rd I.hok hd
  obtain ⟨ep, hat⟩ := dd.dictAt
  have hkeys : vs.map (·.1) = ks.map Sum.inl := rel.keys.symm.trans hks
  have hl : vs.length = ks.length := by
    have e := congrArg List.length hkeys
    rw [List.length_map, List.length_map] at e
    exact e
  have h16 : vs.length ≤ sizeLine := by rw [← rel.length]; exact z
  refine Calls.call_function_entry PyProof.Rows.kind_sorted PyProof.Rows.plain_sorted PyProof.Rows.entry_sorted (PyProof.Rows.args_sorted1 _) ?_
  unfold Builtin.«sorted»
  refine wpAny_bind (m := checkCount "sorted" 1 1 _) (wpAny_pure ?_)
  refine wpAny_bind (PySem.W.kdu_collect (A := X.A.in1) (PySem.W.kdl_dict (knd := mixKind X.prog X.w) (kvs := vs) (ep := ep) lo) (I.ok.hd hcalm) hat h16 fun h' tk acc hk hacc => ?_)
  have hal : acc.toList.length = ks.length := by rw [Array.length_toList, hacc.1, hl]
  have hS : IntsAre acc.toList ks := ints_each hal fun j v e => by
    obtain ⟨k, x, e1, e2⟩ := hacc.2 j v (by rw [← Array.getElem?_toList]; exact e)
    have e3 : (vs.map (·.1))[j]? = some k := by rw [List.getElem?_map, e1]; rfl
    rw [hkeys, List.getElem?_map] at e3
    cases e4 : ks[j]? with
    | none => rw [e4] at e3; cases e3
    | some y =>
      rw [e4] at e3
      have e5 : Sum.inl y = k := Option.some.inj e3
      subst e5
      rcases keyIs_shape (show keyIs (Sum.inl y) v = true from e2) with ⟨i, t, ek, ev⟩ | ⟨z, t, ek, ev⟩
      · cases ek
        exact ⟨y, t, rfl, ev⟩
      · cases ek
  have I1 : Inv X pins σ H { s with heap := h', toks := tk } := I.kept hk
  have hz : acc.toList.length ≤ sizeLine := by rw [hal, ← hl]; exact h16
  refine wpAny_bind (wpAny_newList ?_ hz)
  have hoL : (h'.push (seqObj "list" acc.toList.toArray 0)).get? h'.objs.size = some (seqObj "list" acc.toList.toArray 0) := Heap.get?_push_size _ rfl
  show wpAny _ _ _ _ _ { s with heap := h'.push (seqObj "list" acc.toList.toArray 0), toks := tk }
  refine wpAny_bind (wpAny_holding (wpAny_call_entry PyProof.Rows.slot_list_sort ⟨_, hoL, rfl⟩ PyProof.Rows.entry_list_sort
    (SrtO.list_sort_ord (s := { s with heap := h'.push (seqObj "list" acc.toList.toArray 0), toks := tk }) SrtO.swo_int hoL hz (fun h2 => SrtO.ints_sortable hS h2) fun out g1 g2 => ⟨_, rfl, ?_⟩) (PyProof.Rows.args_list_sort _)))
  obtain ⟨k1, k2, k3⟩ := SrtO.ints_out hS g1 g2
  obtain ⟨e', he'⟩ := PyProof.Rows.sortedHeap_at (vs := acc.toList) (out := out.toArray) hoL
  have hlen : ((out.map SrtO.iv).map V.int).length ≤ sizeLine := by
    rw [List.length_map, k2.length_eq, ← hl]
    exact h16
  refine wpAny_pure ⟨_, rfl, .ref h'.objs.size, upd H h'.objs.size (.lst ((out.map SrtO.iv).map V.int)), I1.laid (t' := tk) (fun b u e => ?_) (Nat.le_refl _)
    (show ObjOk X.prog X.w _ _ _ (.lst ((out.map SrtO.iv).map V.int)) from ⟨hlen, out, e', vals_of_ints k1, he'⟩), rfl, q _ _ k2 k3 (I1.hok.fresh (Nat.le_refl _))⟩
  have hb : b < h'.objs.size := Heap.lt_size e
  rw [PyProof.Rows.sortedHeap_old (Nat.ne_of_lt hb) (by rw [size_push']; exact Nat.lt_succ_of_lt hb)]
  exact Heap.get?_push_of_some _ e
/-- xs[i], 0 ≤ i, by values -/
def rGetL (K : PySem.W.Frag) : V → V → Hp → VK → Prop := fun x y H Q => ∃ (p : Addr) (xs : List V) (i : Nat) (v : V), x = .ref p ∧ y = .int (i : Nat) ∧ SqL K H p xs ∧ i < 1000 ∧ xs[i]? = some v ∧ Q v H
theorem get_list : PGet X (rGetL X.K) := by
  intro pins s σ H o i ov iv Q I ro ri h
  obtain ⟨p, xs, j, v, rfl, rfl, hq, lt, he, q⟩ := h
  cases ro
  obtain ⟨t, rfl⟩ := ri
  obtain ⟨its, r, pl, hz⟩ := I.list hq
  obtain ⟨w, ew, rw'⟩ := r.get he
  exact wpAny_getItem_list pl.isList (by omega) (by omega) (by simpa using ew) ⟨v, H, I, rw', q⟩
end
end L2
set_option Elab.async false
set_option linter.all false
set_option maxRecDepth 100000
set_option maxHeartbeats 4000000
namespace L2
open PySem PySem.Spec PyProof.Rows
end L2
set_option Elab.async false
set_option linter.all false
set_option maxRecDepth 100000
set_option maxHeartbeats 4000000
namespace L2
open PySem PySem.Spec PyProof.Rows
section
variable {X : Cx}
/-- d != e, e empty -/
def rNeE : R2 := fun x y H Q => ∃ a b kvs, x = .ref a ∧ y = .ref b ∧ H a = some (.dK kvs) ∧ H b = some (.dK []) ∧ Q (.bl (!kvs.isEmpty)) H
theorem op_neE (hu : X.A.units < cLine) : OpR X (compareOp .NotEq) rNeE := by
  intro pins s σ H x y v u Q I rx ry h
  obtain ⟨a, b, kvs, rfl, rfl, ha, hb, q⟩ := h
  cases (show v = Value.ref a from rx)
  cases (show u = Value.ref b from ry)
  obtain ⟨_, ya, va, ra, da⟩ := (show ObjOk X.prog X.w H s.heap a (.dK kvs) from I.hok a _ ha)
  obtain ⟨_, yb, vb, rb, db⟩ := (show ObjOk X.prog X.w H s.heap b (.dK []) from I.hok b _ hb)
  have la : kvs.length = va.length := ra.length
  have lb : ([] : List (Key × V)).length = vb.length := rb.length
  have eb : vb = [] := List.length_eq_zero_iff.mp lb.symm
  subst eb
  refine PySem.W.keq_ne (knd := mixKind X.prog X.w) (r := true) ya yb da db hu (fun e => ?_) ?_
  · have ea : va = [] := List.length_eq_zero_iff.mp e
    rw [ea]
    exact .nil
  · have e : (!(va.length == ([] : List (Key × Value)).length && true)) = !kvs.isEmpty := by
      cases kvs with
      | nil => rw [← la]; rfl
      | cons q r => rw [← la]; rfl
    rw [e]
    exact ⟨.bl _, H, I, rfl, q⟩
end
end L2
set_option Elab.async false
set_option linter.all false
set_option maxRecDepth 100000
set_option maxHeartbeats 4000000
namespace My
open PySem L2
theorem hu64 {A : Around} {k : Nat} (hr : Room k A) : A.units + 64 < cLine := by have := hr.un; omega
theorem hu0 {A : Around} {k : Nat} (hr : Room k A) : A.units < cLine := by have := hr.un; omega
def WellAt (H : Hp) (a : Addr) (B : Nat) : Prop := ∃ w0 w1 w2 : Int, H a = some (.lst [.int w0, .int w1, .int w2]) ∧ 0 ≤ w0 ∧ 0 ≤ w1 ∧ w1 < 2147483647 ∧ 0 ≤ w2 ∧ w2 ≤ B ∧ B ≤ 1000000000
theorem WellAt.same {H H' : Hp} {a : Addr} {B : Nat} (h : WellAt H a B) (e : H' a = H a) : WellAt H' a B := by
  obtain ⟨w0, w1, w2, h1, h2⟩ := h
  exact ⟨w0, w1, w2, e.trans h1, h2⟩
theorem WellAt.lst {H : Hp} {a : Addr} {B : Nat} (h : WellAt H a B) : ∃ xs, H a = some (.lst xs) := by
  obtain ⟨w0, w1, w2, h1, _⟩ := h
  exact ⟨_, h1⟩
theorem WellAt.mono {H : Hp} {a : Addr} {B B' : Nat} (h : WellAt H a B) (e : B ≤ B') (e2 : B' ≤ 1000000000) : WellAt H a B' := by
  obtain ⟨w0, w1, w2, h1, h2, h3, h4, h5, h6, h7⟩ := h
  exact ⟨w0, w1, w2, h1, h2, h3, h4, h5, by omega, e2⟩
theorem at7 {i : Int} (h0 : 0 ≤ i) (h1 : i < 7) : ∃ v : Int, atI [V.int 2147483647, V.int 2147483629, V.int 2147483587, V.int 2147483579, V.int 2147483563, V.int 2147483549, V.int 2147483543] i = some (V.int v) ∧ 2147483543 ≤ v ∧ v ≤ 2147483647 := by
  have h : i = 0 ∨ i = 1 ∨ i = 2 ∨ i = 3 ∨ i = 4 ∨ i = 5 ∨ i = 6 := by omega
  rcases h with h | h | h | h | h | h | h <;> subst h <;> exact ⟨_, rfl, by decide, by decide⟩
theorem fm {x m : Int} (h : 0 < m) : 0 ≤ x.fmod m ∧ x.fmod m < m := ⟨Int.fmod_nonneg_of_pos x h, Int.fmod_lt_of_pos x h⟩
theorem fdv {x m : Int} (h : 0 < m) (hx : 0 ≤ x) : 0 ≤ x.fdiv m ∧ x.fdiv m ≤ x := by
  rw [Int.fdiv_eq_ediv_of_nonneg _ (by omega)]
  exact ⟨Int.ediv_nonneg hx (by omega), Int.ediv_le_self _ hx⟩
theorem atI_in {xs : List V} {d : Int} (h0 : 0 ≤ d) (h1 : d < xs.length) : ∃ v, atI xs d = some v ∧ v ∈ xs := by
  refine ⟨xs[d.toNat]'(by omega), ?_, List.getElem_mem _⟩
  unfold atI ixN
  rw [if_pos h0, if_pos (by omega)]
  simp
inductive AnyV (H : Hp) : V → Prop where
  | non : AnyV H .non
  | bl (b : Bool) : AnyV H (.bl b)
  | int (i : Int) : AnyV H (.int i)
  | str (x : Str) : AnyV H (.str x)
  | lst {a : Addr} {xs : List V} (e : H a = some (.lst xs)) : AnyV H (.ref a)
  | tup {a : Addr} {xs : List V} (e : H a = some (.tup xs)) : AnyV H (.ref a)
  | dK {a : Addr} {kvs : List (Key × V)} (e : H a = some (.dK kvs)) : AnyV H (.ref a)
def isI : V → Bool
  | .int _ => true
  | .bl _ => true
  | _ => false
def isB : V → Bool
  | .bl _ => true
  | _ => false
def isS : V → Bool
  | .str _ => true
  | _ => false
def isTup (H : Hp) : V → Bool
  | .ref a => match H a with
    | some (.tup _) => true
    | _ => false
  | _ => false
theorem AnyV.ty {K : PySem.W.Frag} {H : Hp} {v : V} (h : AnyV H v) : ∃ t : String, TyX K H v (.type t) ∧ PySem.W.kitOne K (.type t) (.type "int") = some (isI v) ∧ PySem.W.kitOne K (.type t) (.type "bool") = some (isB v) ∧
    PySem.W.kitOne K (.type t) (.type "str") = some (isS v) ∧ PySem.W.kitOne K (.type t) (.type "tuple") = some (isTup H v) := by
  cases h with
  | non => exact ⟨_, .base .non, kit_ty (r := false) (by decide +kernel), kit_ty (r := false) (by decide +kernel), kit_ty (r := false) (by decide +kernel), kit_ty (r := false) (by decide +kernel)⟩
  | bl b => exact ⟨_, .base (.bl b), kit_ty (r := true) (by decide +kernel), kit_ty (r := true) (by decide +kernel), kit_ty (r := false) (by decide +kernel), kit_ty (r := false) (by decide +kernel)⟩
  | int i => exact ⟨_, .base (.int i), kit_ty (r := true) (by decide +kernel), kit_ty (r := false) (by decide +kernel), kit_ty (r := false) (by decide +kernel), kit_ty (r := false) (by decide +kernel)⟩
  | str x => exact ⟨_, .base (.str x), kit_ty (r := false) (by decide +kernel), kit_ty (r := false) (by decide +kernel), kit_ty (r := true) (by decide +kernel), kit_ty (r := false) (by decide +kernel)⟩
  | @lst a xs e =>
    have z : isTup H (.ref a) = false := by simp only [isTup, e]
    rw [z]
    exact ⟨_, .base (.lst e), kit_ty (r := false) (by decide +kernel), kit_ty (r := false) (by decide +kernel), kit_ty (r := false) (by decide +kernel), kit_ty (r := false) (by decide +kernel)⟩
  | @tup a xs e =>
    have z : isTup H (.ref a) = true := by simp only [isTup, e]
    rw [z]
    exact ⟨_, .base (.tup e), kit_ty (r := false) (by decide +kernel), kit_ty (r := false) (by decide +kernel), kit_ty (r := false) (by decide +kernel), kit_ty (r := true) (by decide +kernel)⟩
  | @dK a kvs e =>
    have z : isTup H (.ref a) = false := by simp only [isTup, e]
    rw [z]
    exact ⟨_, .base (.dK e), kit_ty (r := false) (by decide +kernel), kit_ty (r := false) (by decide +kernel), kit_ty (r := false) (by decide +kernel), kit_ty (r := false) (by decide +kernel)⟩
theorem AnyV.keep {H H' : Hp} {v : V} (h : AnyV H v) (e : ∀ a o, v = .ref a → H a = some o → H' a = some o) : AnyV H' v := by
  cases h with
  | non => exact .non
  | bl b => exact .bl b
  | int i => exact .int i
  | str x => exact .str x
  | lst z => exact .lst (e _ _ rfl z)
  | tup z => exact .tup (e _ _ rfl z)
  | dK z => exact .dK (e _ _ rfl z)
theorem AnyV.same {H H' : Hp} {v : V} (h : AnyV H v) (e : Same H H') : AnyV H' v := h.keep fun a o _ z => e a o z
/-- whether a value is an integer from lo to hi -/
def inR (lo hi : Int) : V → Bool
  | .int i => decide (lo ≤ i ∧ i ≤ hi)
  | _ => false
theorem inR_int {lo hi : Int} {v : V} (h : inR lo hi v = true) : ∃ i, v = .int i ∧ lo ≤ i ∧ i ≤ hi := by
  cases v <;> first | exact ⟨_, rfl, of_decide_eq_true h⟩ | cases h
theorem inR_of {lo hi i : Int} (h0 : lo ≤ i) (h1 : i ≤ hi) : inR lo hi (.int i) = true := decide_eq_true ⟨h0, h1⟩
/-- what an error of the class C with the field f and the value v leaves -/
def Rz (C : Addr) (f : Str) (v : V) (H : Hp) (E : XK) : Prop := ∀ d H', Same H H' → H d = none → H' d = some (.xd [(f, v)]) → E (.ref C) (some d) H'
theorem Rz.same {C : Addr} {f : Str} {v : V} {H H1 : Hp} {E : XK} (h : Rz C f v H E) (s : Same H H1) : Rz C f v H1 E := fun d H' s' hd e => h d H' (s.trans s') (Same.free s hd) e
def spXi (K : PySem.W.Frag) (f : Str) : Sp := fun vs H Q _ => ∃ (a C : Addr) (y : V), vs = [.ref a, y] ∧ OexC K C ∧ PySem.W.findIn K (.ref C) f = some none ∧ H a = some (exo a C none) ∧
  ∀ dx, H dx = none → dx ≠ a → Q .non (upd (upd H dx (exd dx [(f, y)])) a (exo a C (some dx)))
theorem xi_done {K : PySem.W.Frag} {f : Str} {y : V} {a C : Addr} {H : Hp} {E : XK} (hC : OexC K C) (hn : PySem.W.findIn K (.ref C) f = some none) (ha : H a = none) (k : Rz C f y H E) :
    spXi K f [.ref a, y] (upd H a (exo a C none)) (fun v H2 => v = .non ∧ ∃ (d : Addr) (fs : List (Str × V)), H2 a = some (exo a C (some d)) ∧ H2 d = some (exd d fs) ∧ H d = none ∧ E (.ref C) (some d) (upd (del H2 a) d (.xd fs))) (fun _ _ _ => False) := by
  refine ⟨a, C, y, rfl, hC, hn, upd_same, fun dx hx ne => ⟨rfl, dx, [(f, y)], upd_same, ?_, (upd_none hx).2, ?_⟩⟩
  · rw [upd_ne ne, upd_same]
  · refine k dx _ (fun b o e => ?_) (upd_none hx).2 upd_same
    rw [upd_ne (ne_of_none e (upd_none hx).2), del_ne (ne_of_none e ha), upd_ne (ne_of_none e ha), upd_ne (ne_of_none e (upd_none hx).2), upd_ne (ne_of_none e ha)]
    exact e
inductive Tag where
  | sys | tabs | objs | opgs | files | tab (i : Int) | usr (k : Int) | his | row | lks
  deriving DecidableEq
abbrev Tm := Addr → Option Tag
structure Sys where
  n : Int
  p : Int
  o : Int
  tabs : Int → Option Tb
  fls : Str → Bool
structure Wh where
  dx : Addr
  t : Addr
  ob : Addr
  og : Addr
  fi : Addr
  cl : Addr
  me : Addr
  sw : Addr
  hi : Addr
  ro : Addr
def sysF (n p o : Int) (w : Wh) : List (Str × V) :=
  [("frames", .non), ("slots", .non), ("strict", .bl false), ("steps_made", .int n), ("processes_made", .int p), ("objects_made", .int o), ("tables", .ref w.t), ("objects", .ref w.ob), ("object_pages", .ref w.og), ("files", .ref w.fi), ("classes", .ref w.cl), ("locked_pages", .int 0), ("memory", .ref w.me), ("swapped", .ref w.sw), ("faults", .int 0), ("swap_outs", .int 0), ("write_backs", .int 0), ("history", .ref w.hi)]
/-- the fields of the history -/
def hisF (ro lk : Addr) (y : Nat → V) : List (Str × V) :=
  [("row", .ref ro), ("holes", y 0), ("locked", .ref lk), ("classes", y 1), ("touches", y 2), ("distances", y 3), ("swap_outs", y 4), ("write_backs", y 5), ("most_slots", y 6), ("saves", y 7), ("lock_changes", y 8), ("most_locked", y 9), ("crashed", y 10), ("merged", y 11)]
/-- pages and tuples are never changed -/
def isImm : HO → Bool
  | .tup _ => true
  | .ins _ _ fs => fs.length == 7
  | _ => false
def isBox : HO → Bool
  | .dK _ => true
  | .dT _ => true
  | .lst _ => true
  | .ins _ _ fs => fs.length == 14
  | _ => false
def ImmK (H H' : Hp) : Prop := ∀ b o, H b = some o → isImm o = true → H' b = some o
theorem ImmK.same {H H' : Hp} (h : Same H H') : ImmK H H' := fun b o e _ => h b o e
theorem ImmK.trans {H H1 H2 : Hp} (h : ImmK H H1) (k : ImmK H1 H2) : ImmK H H2 := fun b o e i => k b o (h b o e i) i
theorem ImmK.upd {H : Hp} {a : Addr} {o u : HO} (h : H a = some o) (hi : isImm o = false) : ImmK H (upd H a u) := fun b v e i => by
  by_cases z : b = a
  · rw [z, h] at e
    cases e
    rw [hi] at i
    cases i
  · rw [upd_ne z]
    exact e
theorem srcR.keep {H H' : Hp} {v : V} {s : Src} (h : srcR H v s) (k : ImmK H H') : srcR H' v s := by
  cases s with
  | non => exact h
  | file n => obtain ⟨a, e1, e2⟩ := h; exact ⟨a, e1, k _ _ e2 rfl⟩
  | obj j => obtain ⟨a, e1, e2⟩ := h; exact ⟨a, e1, k _ _ e2 rfl⟩
theorem PgR.keep {CP : Addr} {H H' : Hp} {p : Addr} {g : Pg} (h : PgR CP H p g) (k : ImmK H H') : PgR CP H' p g := by
  obtain ⟨dx, sv, fa, e1, e2, e3⟩ := h
  exact ⟨dx, sv, fa, k _ _ e1 rfl, e2.keep k, k _ _ e3 rfl⟩
def PgO (CP : Addr) (H : Hp) (i : Int) : Option V → Option Pg → Prop
  | none, none => True
  | some v, some g => (0 ≤ i ∧ i < 512) ∧ WfP g ∧ ∃ p, v = .ref p ∧ PgR CP H p g
  | _, _ => False
theorem PgO.keep {CP : Addr} {H H' : Hp} {i : Int} {v : Option V} {g : Option Pg} (h : PgO CP H i v g) (k : ImmK H H') : PgO CP H' i v g := by
  match v, g, h with
  | none, none, _ => exact True.intro
  | some v, some g, h => obtain ⟨b, wf, p, e1, e2⟩ := h; exact ⟨b, wf, p, e1, e2.keep k⟩
theorem PgO.isSome {CP : Addr} {H : Hp} {i : Int} {v : Option V} {g : Option Pg} (h : PgO CP H i v g) : v.isSome = g.isSome := by
  match v, g, h with
  | none, none, _ => rfl
  | some v, some g, _ => rfl
/-- a table of pages -/
def TabR (CP : Addr) (H : Hp) (d : Addr) (P : Tb) : Prop := ∃ kvs f, H d = some (.dK kvs) ∧ DI kvs f ∧ ∀ i, PgO CP H i (f i) (P i)
theorem TabR.keep {CP : Addr} {H H' : Hp} {d : Addr} {P : Tb} (h : TabR CP H d P) (k : ImmK H H') (e : H' d = H d) : TabR CP H' d P := by
  obtain ⟨kvs, f, h1, h2, h3⟩ := h
  exact ⟨kvs, f, e.trans h1, h2, fun i => (h3 i).keep k⟩
theorem PgO.low {CP : Addr} {H : Hp} {i : Int} {v : Option V} {g : Option Pg} (h : PgO CP H i v g) (s : v.isSome = true) : 0 ≤ i ∧ i < 512 := by
  match v, g, h with
  | some v, some g, h => exact h.1
/-- the users of the pages of an object -/
def UsrR (H : Hp) (u : Addr) (c : Int → Nat) : Prop := ∃ kvs f, H u = some (.dK kvs) ∧ DI kvs f ∧ (∀ i, f i = if c i = 0 then none else some (.int (c i : Nat))) ∧ ∀ i, c i ≠ 0 → 0 ≤ i ∧ i < 512
def ObjO (H : Hp) (τ : Tm) (o k : Int) (c : Int → Nat) : Option V → Prop
  | none => ∀ i, c i = 0
  | some v => (1 ≤ k ∧ k ≤ o) ∧ (∃ i, c i ≠ 0) ∧ ∃ u, v = .ref u ∧ τ u = some (.usr k) ∧ UsrR H u c
def ObR (H : Hp) (τ : Tm) (ob : Addr) (o : Int) (cnt : Int → Int → Nat) : Prop := ∃ kvs f, H ob = some (.dK kvs) ∧ DI kvs f ∧ ∀ k, ObjO H τ o k (cnt k) (f k)
def TbO (CP : Addr) (H : Hp) (τ : Tm) (p i : Int) : Option V → Option Tb → Prop
  | none, none => True
  | some v, some P => (1 ≤ i ∧ i ≤ p) ∧ ∃ d, v = .ref d ∧ τ d = some (.tab i) ∧ TabR CP H d P
  | _, _ => False
def TsR (CP : Addr) (H : Hp) (τ : Tm) (t : Addr) (p : Int) (tabs : Int → Option Tb) : Prop := ∃ kvs f, H t = some (.dK kvs) ∧ DI kvs f ∧ ∀ i, TbO CP H τ p i (f i) (tabs i)
def FilR (H : Hp) (fi : Addr) (fls : Str → Bool) : Prop := ∃ kvs : List (Key × V), H fi = some (.dK kvs) ∧ (∀ nm : Str, (valV kvs (Sum.inr nm)).isSome = fls nm) ∧ kvs.length ≤ 100 ∧ ∀ nm, fls nm = true → PyData.strOk nm = true
/-- the history of a system in which nothing was touched -/
structure HisR (CH : Addr) (H : Hp) (τ : Tm) (w : Wh) : Prop where
  at_ : ∃ dh lk y, H w.hi = some (.ins CH dh (hisF w.ro lk y)) ∧ H lk = some (.lst []) ∧ τ lk = some .lks
  ro : H w.ro = some (.lst [])
  th : τ w.hi = some .his
  tr : τ w.ro = some .row
theorem HisR.keep {CH : Addr} {H H' : Hp} {τ τ' : Tm} {w : Wh} (h : HisR CH H τ w) (e : ∀ b g, τ b = some g → (g = .his ∨ g = .row ∨ g = .lks) → ∀ o, H b = some o → H' b = some o) (t : ∀ b g, τ b = some g → τ' b = some g) : HisR CH H' τ' w := by
  obtain ⟨dh, lk, y, h1, h2, h3⟩ := h.at_
  exact ⟨⟨dh, lk, y, e _ _ h.th (.inl rfl) _ h1, e _ _ h3 (.inr (.inr rfl)) _ h2, t _ _ h3⟩, e _ _ h.tr (.inr (.inl rfl)) _ h.ro, t _ _ h.th, t _ _ h.tr⟩
structure SyA (CS CP CH : Addr) (H : Hp) (x : Addr) (w : Wh) (S : Sys) (τ : Tm) (cnt : Int → Int → Nat) : Prop where
  hx : H x = some (.ins CS w.dx (sysF S.n S.p S.o w))
  tx : τ x = some .sys
  tt : τ w.t = some .tabs
  to : τ w.ob = some .objs
  tg : τ w.og = some .opgs
  tf : τ w.fi = some .files
  tabs : TsR CP H τ w.t S.p S.tabs
  obs : ObR H τ w.ob S.o cnt
  ogs : H w.og = some (.dT [])
  fis : FilR H w.fi S.fls
  bp : 0 ≤ S.p ∧ S.p ≤ 1000
  bo : 0 ≤ S.o ∧ S.o ≤ 1000
  own : ∀ b g, τ b = some g → b = x ∨ ∃ o, H b = some o ∧ isBox o = true
  his : HisR CH H τ w
@[irreducible] def cntS (S : Sys) (k i : Int) : Nat := sumN 1001 fun j => match S.tabs j with
  | some P => cntT P k i
  | none => 0
abbrev SyR (CS CP CH : Addr) (H : Hp) (x : Addr) (w : Wh) (S : Sys) (τ : Tm) : Prop := SyA CS CP CH H x w S τ (cntS S)
/-- what a step of the program leaves: all that is not the system's; new things become the system's -/
def Fr (τ : Tm) (H H' : Hp) : Prop := ∀ b o, τ b = none → H b = some o → H' b = some o
def Ex (τ τ' : Tm) (H : Hp) : Prop := ∀ b, τ' b = τ b ∨ (τ b = none ∧ H b = none)
structure Go (τ : Tm) (H : Hp) (τ' : Tm) (H' : Hp) : Prop where
  fr : Fr τ H H'
  ex : Ex τ τ' H
  ls : ∀ b xs, H b = some (.lst xs) → H' b = some (.lst xs)
def isLst : HO → Bool
  | .lst _ => true
  | _ => false
theorem Go.refl (τ : Tm) (H : Hp) : Go τ H τ H := ⟨fun _ _ _ e => e, fun _ => .inl rfl, fun _ _ e => e⟩
theorem Go.same {τ : Tm} {H H' : Hp} (s : Same H H') : Go τ H τ H' := ⟨fun b o _ e => s b o e, fun _ => .inl rfl, fun b xs e => s b _ e⟩
theorem Go.trans {τ τ1 τ2 : Tm} {H H1 H2 : Hp} (a : Go τ H τ1 H1) (b : Go τ1 H1 τ2 H2) : Go τ H τ2 H2 := by
  refine ⟨fun c o n e => ?_, fun c => ?_, fun c xs e => b.ls c xs (a.ls c xs e)⟩
  · rcases a.ex c with z | ⟨_, z⟩
    · exact b.fr c o (z.trans n) (a.fr c o n e)
    · rw [e] at z; cases z
  · rcases b.ex c with z | ⟨z1, z2⟩
    · rcases a.ex c with y | y
      · exact .inl (z.trans y)
      · exact .inr y
    · rcases a.ex c with y | y
      · refine .inr ⟨y.symm.trans z1, ?_⟩
        cases e : H c with
        | none => rfl
        | some o => rw [a.fr c o (y.symm.trans z1) e] at z2; cases z2
      · exact .inr y
theorem Go.upd {τ : Tm} {H : Hp} {a : Addr} {o u : HO} (h : τ a ≠ none) (ea : H a = some u) (n : isLst u = false := by rfl) : Go τ H τ (upd H a o) := ⟨fun b u n e => by
  have nz : b ≠ a := fun z => h (by rw [← z]; exact n)
  show L2.upd H a o b = some u
  rw [upd_ne nz]; exact e, fun _ => .inl rfl, fun b xs e => by
  have nz : b ≠ a := fun z => by rw [z, ea] at e; cases e; cases n
  show L2.upd H a o b = some _
  rw [upd_ne nz]; exact e⟩
/-- what the system leans on stays -/
def Kp (τ : Tm) (H H' : Hp) : Prop := ∀ b o, H b = some o → (τ b ≠ none ∨ isImm o = true) → H' b = some o
theorem Kp.same {τ : Tm} {H H' : Hp} (s : Same H H') : Kp τ H H' := fun b o e _ => s b o e
theorem Kp.imm {τ : Tm} {H H' : Hp} (k : Kp τ H H') : ImmK H H' := fun b o e i => k b o e (.inr i)
section
variable {CS CP CH : Addr} {H H' : Hp} {x : Addr} {w : Wh} {S : Sys} {τ : Tm} {cnt : Int → Int → Nat}
theorem UsrR.keep {u : Addr} {c : Int → Nat} (h : UsrR H u c) (e : H' u = H u) : UsrR H' u c := by
  obtain ⟨kvs, f, h1, h2⟩ := h
  exact ⟨kvs, f, e.trans h1, h2⟩
theorem ObjO.keep {τ' : Tm} {o o' k : Int} {c : Int → Nat} {v : Option V} (h : ObjO H τ o k c v) (e : ∀ u, τ u = some (.usr k) → (∃ z, H u = some z) → H' u = H u ∧ τ' u = τ u) (ho : o ≤ o') : ObjO H' τ' o' k c v := by
  cases v with
  | none => exact h
  | some v =>
    obtain ⟨b, c1, u, rfl, tu, hu⟩ := h
    obtain ⟨kvs, f, hk, _⟩ := id hu
    obtain ⟨e1, e2⟩ := e u tu ⟨_, hk⟩
    exact ⟨by omega, c1, u, rfl, e2.trans tu, hu.keep e1⟩
theorem TbO.keep {τ' : Tm} {p p' i : Int} {v : Option V} {P : Option Tb} (h : TbO CP H τ p i v P) (k : ImmK H H') (e : ∀ d, τ d = some (.tab i) → (∃ z, H d = some z) → H' d = H d ∧ τ' d = τ d) (hp : p ≤ p') : TbO CP H' τ' p' i v P := by
  match v, P, h with
  | none, none, _ => exact True.intro
  | some v, some P, h =>
    obtain ⟨b, d, rfl, td, hd⟩ := h
    obtain ⟨kvs, f, hk, _⟩ := id hd
    obtain ⟨e1, e2⟩ := e d td ⟨_, hk⟩
    exact ⟨by omega, d, rfl, e2.trans td, hd.keep k e1⟩
theorem SyA.keep (h : SyA CS CP CH H x w S τ cnt) (k : Kp τ H H') : SyA CS CP CH H' x w S τ cnt := by
  have at_ : ∀ {b : Addr} {g : Tag}, τ b = some g → ∀ {o}, H b = some o → H' b = some o := fun t _ e => k _ _ e (.inl (by rw [t]; simp))
  have eq_ : ∀ {b : Addr} {g : Tag}, τ b = some g → (∃ z, H b = some z) → H' b = H b ∧ τ b = τ b := fun t ⟨z, e⟩ => ⟨(at_ t e).trans e.symm, rfl⟩
  refine ⟨at_ h.tx h.hx, h.tx, h.tt, h.to, h.tg, h.tf, ?_, ?_, at_ h.tg h.ogs, ?_, h.bp, h.bo, fun b g e => ?_, h.his.keep (fun b g t _ o e => at_ t e) (fun b g t => t)⟩
  · obtain ⟨kvs, f, h1, h2, h3⟩ := h.tabs
    exact ⟨kvs, f, at_ h.tt h1, h2, fun i => (h3 i).keep k.imm (fun d td z => eq_ td z) (Int.le_refl _)⟩
  · obtain ⟨kvs, f, h1, h2, h3⟩ := h.obs
    exact ⟨kvs, f, at_ h.to h1, h2, fun i => (h3 i).keep (fun d td z => eq_ td z) (Int.le_refl _)⟩
  · obtain ⟨kvs, h1, h2⟩ := h.fis
    exact ⟨kvs, at_ h.tf h1, h2⟩
  · rcases h.own b g e with z | ⟨o, z1, z2⟩
    · exact .inl z
    · exact .inr ⟨o, at_ e z1, z2⟩
theorem SyA.same (h : SyA CS CP CH H x w S τ cnt) (s : Same H H') : SyA CS CP CH H' x w S τ cnt := h.keep (Kp.same s)
theorem SyA.cong {cnt' : Int → Int → Nat} (h : SyA CS CP CH H x w S τ cnt) (e : ∀ k i, cnt k i = cnt' k i) : SyA CS CP CH H x w S τ cnt' := by
  have : cnt = cnt' := by funext k i; exact e k i
  rw [← this]; exact h
/-- the table of a living process -/
def TabOf (H : Hp) (w : Wh) (i : Int) (d : Addr) : Prop := ∃ kvs, H w.t = some (.dK kvs) ∧ valV kvs (Sum.inl i) = some (.ref d)
theorem SyA.living (h : SyA CS CP CH H x w S τ cnt) {i : Int} {P : Tb} (e : S.tabs i = some P) : ∃ d, TabOf H w i d := by
  obtain ⟨kvs, f, h1, h2, h3⟩ := h.tabs
  have z := h3 i
  rw [e] at z
  cases ef : f i with
  | none => rw [ef] at z; exact z.elim
  | some v =>
    rw [ef] at z
    obtain ⟨_, d, rfl, _⟩ := z
    exact ⟨d, kvs, h1, (h2.val i).trans ef⟩
theorem SyA.tab (h : SyA CS CP CH H x w S τ cnt) {i : Int} {d : Addr} (e : TabOf H w i d) : ∃ P, S.tabs i = some P ∧ (1 ≤ i ∧ i ≤ S.p) ∧ τ d = some (.tab i) ∧ TabR CP H d P := by
  obtain ⟨kvs, f, h1, h2, h3⟩ := h.tabs
  obtain ⟨kvs', h1', hv⟩ := e
  rw [h1] at h1'
  cases h1'
  have z := h3 i
  rw [← h2.val i, hv] at z
  cases eP : S.tabs i with
  | none => rw [eP] at z; exact z.elim
  | some P =>
    rw [eP] at z
    obtain ⟨b, d', e', td, hd⟩ := z
    cases e'
    exact ⟨P, rfl, b, td, hd⟩
theorem SyA.tabE (h : SyA CS CP CH H x w S τ cnt) {i : Int} {d : Addr} {P : Tb} (e : TabOf H w i d) (eP : S.tabs i = some P) : (1 ≤ i ∧ i ≤ S.p) ∧ τ d = some (.tab i) ∧ TabR CP H d P := by
  obtain ⟨P', e', r⟩ := h.tab e
  rw [eP] at e'
  cases e'
  exact r
theorem TabOf.keep {i : Int} {d : Addr} (h : TabOf H w i d) (e : ∀ o, H w.t = some o → H' w.t = some o) : TabOf H' w i d := by
  obtain ⟨k, h1, h2⟩ := h
  exact ⟨k, e _ h1, h2⟩
theorem SyA.notIn (h : SyA CS CP CH H x w S τ cnt) {i : Int} (e : S.tabs i = none) : ∃ kvs, H w.t = some (.dK kvs) ∧ valV kvs (Sum.inl i) = none := by
  obtain ⟨kvs, f, h1, h2, h3⟩ := h.tabs
  have z := h3 i
  rw [e] at z
  cases ef : f i with
  | none => exact ⟨kvs, h1, (h2.val i).trans ef⟩
  | some v => rw [ef] at z; exact z.elim
theorem ne_tag {b c : Addr} {g g' : Tag} (h : τ b = some g) (h' : τ c = some g') (n : g ≠ g') : b ≠ c := fun e => by
  rw [e, h'] at h
  exact n (Option.some.inj h).symm
/-- the system's own fields change, nothing else -/
theorem SyA.put (h : SyA CS CP CH H x w S τ cnt) {n' o' : Int} (ho : S.o ≤ o') (ho2 : o' ≤ 1000) : SyA CS CP CH (upd H x (.ins CS w.dx (sysF n' S.p o' w))) x w { S with n := n', o := o' } τ cnt := by
  have im : ImmK H (upd H x (.ins CS w.dx (sysF n' S.p o' w))) := ImmK.upd h.hx rfl
  have at_ : ∀ {b : Addr} {g : Tag}, τ b = some g → g ≠ .sys → (upd H x (.ins CS w.dx (sysF n' S.p o' w))) b = H b := fun t n => upd_ne (ne_tag t h.tx n)
  refine ⟨upd_same, h.tx, h.tt, h.to, h.tg, h.tf, ?_, ?_, (at_ h.tg (by simp)).trans h.ogs, ?_, h.bp, ⟨by have := h.bo; simp only; omega, ho2⟩, fun b g e => ?_, h.his.keep (fun b g t c o e => by rw [at_ t (by rcases c with c | c | c <;> rw [c] <;> simp)]; exact e) (fun b g t => t)⟩
  · obtain ⟨kvs, f, h1, h2, h3⟩ := h.tabs
    exact ⟨kvs, f, (at_ h.tt (by simp)).trans h1, h2, fun i => (h3 i).keep im (fun d td _ => ⟨at_ td (by simp), rfl⟩) (Int.le_refl _)⟩
  · obtain ⟨kvs, f, h1, h2, h3⟩ := h.obs
    exact ⟨kvs, f, (at_ h.to (by simp)).trans h1, h2, fun i => (h3 i).keep (fun d td _ => ⟨at_ td (by simp), rfl⟩) ho⟩
  · obtain ⟨kvs, h1, h2⟩ := h.fis
    exact ⟨kvs, (at_ h.tf (by simp)).trans h1, h2⟩
  · rcases h.own b g e with z | ⟨o, z1, z2⟩
    · exact .inl z
    · by_cases bx : b = x
      · exact .inl bx
      · exact .inr ⟨o, by rw [upd_ne bx]; exact z1, z2⟩
def Sys.setTab (S : Sys) (i : Int) (P : Option Tb) : Sys := { S with tabs := fun j => if j = i then P else S.tabs j }
/-- one table changes -/
theorem SyA.putTab (h : SyA CS CP CH H x w S τ cnt) {i : Int} {d : Addr} {P' : Tb} {kvs' : List (Key × V)} (e : TabOf H w i d) (r : TabR CP (upd H d (.dK kvs')) d P') : SyA CS CP CH (upd H d (.dK kvs')) x w (S.setTab i (some P')) τ cnt := by
  obtain ⟨P, eP, bi, td, kvs0, f0, hd, _⟩ := h.tab e
  have im : ImmK H (upd H d (.dK kvs')) := ImmK.upd hd rfl
  have at_ : ∀ {b : Addr} {g : Tag}, τ b = some g → g ≠ .tab i → (upd H d (.dK kvs')) b = H b := fun t n => upd_ne (ne_tag t td n)
  refine ⟨(at_ h.tx (by simp)).trans h.hx, h.tx, h.tt, h.to, h.tg, h.tf, ?_, ?_, (at_ h.tg (by simp)).trans h.ogs, ?_, h.bp, h.bo, fun b g e' => ?_, h.his.keep (fun b g t c o e => by rw [at_ t (by rcases c with c | c | c <;> rw [c] <;> simp)]; exact e) (fun b g t => t)⟩
  · obtain ⟨kvs, f, h1, h2, h3⟩ := h.tabs
    refine ⟨kvs, f, (at_ h.tt (by simp)).trans h1, h2, fun j => ?_⟩
    by_cases ej : j = i
    · subst ej
      have z := h3 j
      show TbO CP _ τ S.p j (f j) (if j = j then some P' else S.tabs j)
      rw [if_pos rfl]
      obtain ⟨kvs1, q1, q2⟩ := e
      rw [h1] at q1
      cases q1
      rw [← h2.val j, q2]
      exact ⟨bi, d, rfl, td, r⟩
    · show TbO CP _ τ S.p j (f j) (if j = i then some P' else S.tabs j)
      rw [if_neg ej]
      exact (h3 j).keep im (fun d' td' _ => ⟨at_ td' (fun z => ej (Tag.tab.inj z)), rfl⟩) (Int.le_refl _)
  · obtain ⟨kvs, f, h1, h2, h3⟩ := h.obs
    exact ⟨kvs, f, (at_ h.to (by simp)).trans h1, h2, fun i => (h3 i).keep (fun d td _ => ⟨at_ td (by simp), rfl⟩) (Int.le_refl _)⟩
  · obtain ⟨kvs, h1, h2⟩ := h.fis
    exact ⟨kvs, (at_ h.tf (by simp)).trans h1, h2⟩
  · rcases h.own b g e' with z | ⟨o, z1, z2⟩
    · exact .inl z
    · by_cases bx : b = d
      · exact .inr ⟨.dK kvs', by rw [bx, upd_same], rfl⟩
      · exact .inr ⟨o, by rw [upd_ne bx]; exact z1, z2⟩
end
theorem upd_comm {H : Hp} {a b : Addr} {o u : HO} (n : a ≠ b) : upd (upd H a o) b u = upd (upd H b u) a o := by
  funext c
  by_cases e1 : c = a
  · subst e1
    rw [upd_ne n, upd_same, upd_same]
  · by_cases e2 : c = b
    · subst e2
      rw [upd_same, upd_ne e1, upd_same]
    · rw [upd_ne e2, upd_ne e1, upd_ne e1, upd_ne e2]
def setC (cnt : Int → Int → Nat) (k : Int) (c : Int → Nat) : Int → Int → Nat := fun k' => if k' = k then c else cnt k'
def setTag (τ : Tm) (u : Addr) (g : Tag) : Tm := fun b => if b = u then some g else τ b
theorem setTag_ne {τ : Tm} {u b : Addr} {g : Tag} (h : b ≠ u) : setTag τ u g b = τ b := if_neg h
theorem setTag_same {τ : Tm} {u : Addr} {g : Tag} : setTag τ u g u = some g := if_pos rfl
section
variable {CS CP CH : Addr} {H H' : Hp} {x : Addr} {w : Wh} {S : Sys} {τ : Tm} {cnt : Int → Int → Nat} {k : Int} {u : Addr} {okvs : List (Key × V)}
theorem SyA.usr (h : SyA CS CP CH H x w S τ cnt) (ho : H w.ob = some (.dK okvs)) (hu : valV okvs (Sum.inl k) = some (.ref u)) : τ u = some (.usr k) ∧ UsrR H u (cnt k) ∧ (∃ i, cnt k i ≠ 0) ∧ 1 ≤ k ∧ k ≤ S.o := by
  obtain ⟨kvs, f, h1, h2, h3⟩ := h.obs
  rw [ho] at h1
  cases h1
  have z := h3 k
  rw [← h2.val k, hu] at z
  obtain ⟨b, c, u', e, t, r⟩ := z
  cases e
  exact ⟨t, r, c, b⟩
theorem SyA.noUsr (h : SyA CS CP CH H x w S τ cnt) (ho : H w.ob = some (.dK okvs)) (hu : valV okvs (Sum.inl k) = none) : ∀ i, cnt k i = 0 := by
  obtain ⟨kvs, f, h1, h2, h3⟩ := h.obs
  rw [ho] at h1
  cases h1
  have z := h3 k
  rw [← h2.val k, hu] at z
  exact z
theorem SyA.obv (h : SyA CS CP CH H x w S τ cnt) (ho : H w.ob = some (.dK okvs)) (k : Int) : valV okvs (Sum.inl k) = none ∨ ∃ u, valV okvs (Sum.inl k) = some (.ref u) := by
  obtain ⟨kvs, f, h1, h2, h3⟩ := h.obs
  rw [ho] at h1
  cases h1
  have z := h3 k
  rw [← h2.val k] at z
  cases e : valV okvs (Sum.inl k) with
  | none => exact .inl rfl
  | some v =>
    rw [e] at z
    obtain ⟨_, _, u, e', _⟩ := z
    exact .inr ⟨u, by rw [e']⟩
theorem SyA.obLen (h : SyA CS CP CH H x w S τ cnt) (ho : H w.ob = some (.dK okvs)) : okvs.length ≤ 1001 := by
  obtain ⟨kvs, f, h1, h2, h3⟩ := h.obs
  rw [ho] at h1
  cases h1
  refine h2.len fun i hi => ?_
  have z := h3 i
  cases e : f i with
  | none => rw [e] at hi; cases hi
  | some v =>
    rw [e] at z
    have := z.1
    have := h.bo
    omega
theorem UsrR.len {c : Int → Nat} {kvs : List (Key × V)} (h : UsrR H u c) (e : H u = some (.dK kvs)) : kvs.length ≤ 512 := by
  obtain ⟨kvs', f, h1, h2, h3, h4⟩ := h
  rw [e] at h1
  cases h1
  refine h2.len fun i hi => ?_
  rw [h3 i] at hi
  by_cases z : c i = 0
  · rw [if_pos z] at hi; cases hi
  · have := h4 i z
    omega
/-- a dict among the system's changes, one of users -/
theorem SyA.putUsr (h : SyA CS CP CH H x w S τ cnt) (ho : H w.ob = some (.dK okvs)) (hu : valV okvs (Sum.inl k) = some (.ref u)) {c' : Int → Nat} {kvs' : List (Key × V)} (r : UsrR (upd H u (.dK kvs')) u c') (ne : ∃ i, c' i ≠ 0) :
    SyA CS CP CH (upd H u (.dK kvs')) x w S τ (setC cnt k c') := by
  obtain ⟨tu, ⟨kvs0, f0, hd, _⟩, _, bk⟩ := h.usr ho hu
  have im : ImmK H (upd H u (.dK kvs')) := ImmK.upd hd rfl
  have at_ : ∀ {b : Addr} {g : Tag}, τ b = some g → g ≠ .usr k → (upd H u (.dK kvs')) b = H b := fun t n => upd_ne (ne_tag t tu n)
  refine ⟨(at_ h.tx (by simp)).trans h.hx, h.tx, h.tt, h.to, h.tg, h.tf, ?_, ?_, (at_ h.tg (by simp)).trans h.ogs, ?_, h.bp, h.bo, fun b g e' => ?_, h.his.keep (fun b g t c o e => by rw [at_ t (by rcases c with c | c | c <;> rw [c] <;> simp)]; exact e) (fun b g t => t)⟩
  · obtain ⟨kvs, f, h1, h2, h3⟩ := h.tabs
    exact ⟨kvs, f, (at_ h.tt (by simp)).trans h1, h2, fun j => (h3 j).keep im (fun d td _ => ⟨at_ td (by simp), rfl⟩) (Int.le_refl _)⟩
  · obtain ⟨kvs, f, h1, h2, h3⟩ := h.obs
    rw [ho] at h1
    cases h1
    refine ⟨okvs, f, (at_ h.to (by simp)).trans ho, h2, fun j => ?_⟩
    by_cases ej : j = k
    · subst ej
      rw [← h2.val j, hu]
      show ObjO _ τ S.o j (if j = j then c' else cnt j) _
      rw [if_pos rfl]
      exact ⟨bk, ne, u, rfl, tu, r⟩
    · show ObjO _ τ S.o j (if j = k then c' else cnt j) _
      rw [if_neg ej]
      exact (h3 j).keep (fun d td _ => ⟨at_ td (fun z => ej (Tag.usr.inj z)), rfl⟩) (Int.le_refl _)
  · obtain ⟨kvs, h1, h2⟩ := h.fis
    exact ⟨kvs, (at_ h.tf (by simp)).trans h1, h2⟩
  · rcases h.own b g e' with z | ⟨o, z1, z2⟩
    · exact .inl z
    · by_cases bx : b = u
      · exact .inr ⟨.dK kvs', by rw [bx, upd_same], rfl⟩
      · exact .inr ⟨o, by rw [upd_ne bx]; exact z1, z2⟩
/-- a dict of users that is not looked at any more -/
theorem SyA.garb (h : SyA CS CP CH H x w S τ cnt) (ho : H w.ob = some (.dK okvs)) (hu : valV okvs (Sum.inl k) = none) (tu : τ u = some (.usr k)) {kvs0 kvs' : List (Key × V)} (hd : H u = some (.dK kvs0)) : SyA CS CP CH (upd H u (.dK kvs')) x w S τ cnt := by
  have im : ImmK H (upd H u (.dK kvs')) := ImmK.upd hd rfl
  have at_ : ∀ {b : Addr} {g : Tag}, τ b = some g → g ≠ .usr k → (upd H u (.dK kvs')) b = H b := fun t n => upd_ne (ne_tag t tu n)
  refine ⟨(at_ h.tx (by simp)).trans h.hx, h.tx, h.tt, h.to, h.tg, h.tf, ?_, ?_, (at_ h.tg (by simp)).trans h.ogs, ?_, h.bp, h.bo, fun b g e' => ?_, h.his.keep (fun b g t c o e => by rw [at_ t (by rcases c with c | c | c <;> rw [c] <;> simp)]; exact e) (fun b g t => t)⟩
  · obtain ⟨kvs, f, h1, h2, h3⟩ := h.tabs
    exact ⟨kvs, f, (at_ h.tt (by simp)).trans h1, h2, fun j => (h3 j).keep im (fun d td _ => ⟨at_ td (by simp), rfl⟩) (Int.le_refl _)⟩
  · obtain ⟨kvs, f, h1, h2, h3⟩ := h.obs
    rw [ho] at h1
    cases h1
    refine ⟨okvs, f, (at_ h.to (by simp)).trans ho, h2, fun j => ?_⟩
    by_cases ej : j = k
    · subst ej
      have z := h3 j
      rw [← h2.val j, hu] at z ⊢
      exact z
    · exact (h3 j).keep (fun d td _ => ⟨at_ td (fun z => ej (Tag.usr.inj z)), rfl⟩) (Int.le_refl _)
  · obtain ⟨kvs, h1, h2⟩ := h.fis
    exact ⟨kvs, (at_ h.tf (by simp)).trans h1, h2⟩
  · rcases h.own b g e' with z | ⟨o, z1, z2⟩
    · exact .inl z
    · by_cases bx : b = u
      · exact .inr ⟨.dK kvs', by rw [bx, upd_same], rfl⟩
      · exact .inr ⟨o, by rw [upd_ne bx]; exact z1, z2⟩
/-- the dict of the objects changes -/
theorem SyA.putOb (h : SyA CS CP CH H x w S τ cnt) (ho : H w.ob = some (.dK okvs)) {okvs' : List (Key × V)} {τ' : Tm} {cnt' : Int → Int → Nat} (ht : ∀ b g, τ b = some g → τ' b = some g) (ht' : ∀ b g, τ' b = some g → τ b = some g ∨ (b ≠ w.ob ∧ ∃ o, H b = some o ∧ isBox o = true))
    (r : ObR (upd H w.ob (.dK okvs')) τ' w.ob S.o cnt') : SyA CS CP CH (upd H w.ob (.dK okvs')) x w S τ' cnt' := by
  have im : ImmK H (upd H w.ob (.dK okvs')) := ImmK.upd ho rfl
  have at_ : ∀ {b : Addr} {g : Tag}, τ b = some g → g ≠ .objs → (upd H w.ob (.dK okvs')) b = H b := fun t n => upd_ne (ne_tag t h.to n)
  refine ⟨(at_ h.tx (by simp)).trans h.hx, ht _ _ h.tx, ht _ _ h.tt, ht _ _ h.to, ht _ _ h.tg, ht _ _ h.tf, ?_, r, (at_ h.tg (by simp)).trans h.ogs, ?_, h.bp, h.bo, fun b g e' => ?_, h.his.keep (fun b g t c o e => by rw [at_ t (by rcases c with c | c | c <;> rw [c] <;> simp)]; exact e) ht⟩
  · obtain ⟨kvs, f, h1, h2, h3⟩ := h.tabs
    exact ⟨kvs, f, (at_ h.tt (by simp)).trans h1, h2, fun j => (h3 j).keep im (fun d td _ => ⟨at_ td (by simp), (ht _ _ td).trans td.symm⟩) (Int.le_refl _)⟩
  · obtain ⟨kvs, h1, h2⟩ := h.fis
    exact ⟨kvs, (at_ h.tf (by simp)).trans h1, h2⟩
  · by_cases bo : b = w.ob
    · exact .inr ⟨.dK okvs', by rw [bo, upd_same], rfl⟩
    · rcases ht' b g e' with z | ⟨_, o, z1, z2⟩
      · rcases h.own b g z with y | ⟨o, z1, z2⟩
        · exact .inl y
        · exact .inr ⟨o, by rw [upd_ne bo]; exact z1, z2⟩
      · exact .inr ⟨o, by rw [upd_ne bo]; exact z1, z2⟩
theorem SyA.newUsr (h : SyA CS CP CH H x w S τ cnt) (ho : H w.ob = some (.dK okvs)) (hu : valV okvs (Sum.inl k) = none) (bk : 1 ≤ k ∧ k ≤ S.o) (tu : τ u = none) {c' : Int → Nat} (r : UsrR H u c') (ne : ∃ i, c' i ≠ 0) :
    SyA CS CP CH (upd H w.ob (.dK (putK okvs (Sum.inl k) (.ref u)))) x w S (setTag τ u (.usr k)) (setC cnt k c') := by
  have nu : ∀ {b : Addr} {g : Tag}, τ b = some g → b ≠ u := fun t e => by rw [e, tu] at t; cases t
  have neu : u ≠ w.ob := (nu h.to).symm
  obtain ⟨ukvs, uf, hu1, hu2⟩ := id r
  refine h.putOb ho (fun b g t => by rw [setTag_ne (nu t)]; exact t) (fun b g t => ?_) ?_
  · by_cases e : b = u
    · rw [e]
      exact .inr ⟨neu, _, hu1, rfl⟩
    · rw [setTag_ne e] at t
      exact .inl t
  · obtain ⟨kvs, f, h1, h2, h3⟩ := h.obs
    rw [ho] at h1
    cases h1
    refine ⟨_, _, upd_same, h2.put k (.ref u), fun j => ?_⟩
    by_cases ej : j = k
    · subst ej
      simp only [if_pos]
      show ObjO _ _ S.o j (if j = j then c' else cnt j) _
      rw [if_pos rfl]
      exact ⟨bk, ne, u, rfl, setTag_same, r.keep (upd_ne neu)⟩
    · simp only [if_neg ej]
      show ObjO _ _ S.o j (if j = k then c' else cnt j) _
      rw [if_neg ej]
      exact (h3 j).keep (fun d td _ => ⟨upd_ne (ne_tag td h.to (by simp)), setTag_ne (nu td)⟩) (Int.le_refl _)
theorem SyA.dropUsr (h : SyA CS CP CH H x w S τ cnt) (ho : H w.ob = some (.dK okvs)) : SyA CS CP CH (upd H w.ob (.dK (dropK okvs (Sum.inl k)))) x w S τ (setC cnt k fun _ => 0) := by
  refine h.putOb ho (fun b g t => t) (fun b g t => .inl t) ?_
  obtain ⟨kvs, f, h1, h2, h3⟩ := h.obs
  rw [ho] at h1
  cases h1
  refine ⟨_, _, upd_same, h2.drop k, fun j => ?_⟩
  by_cases ej : j = k
  · subst ej
    simp only [if_pos]
    show ObjO _ _ S.o j (if j = j then (fun _ => 0) else cnt j) _
    rw [if_pos rfl]
    exact fun _ => rfl
  · simp only [if_neg ej]
    show ObjO _ _ S.o j (if j = k then (fun _ => 0) else cnt j) _
    rw [if_neg ej]
    exact (h3 j).keep (fun d td _ => ⟨upd_ne (ne_tag td h.to (by simp)), rfl⟩) (Int.le_refl _)
end
/-- a page more, a page less -/
def incC (cnt : Int → Int → Nat) (g : Pg) : Int → Int → Nat := fun k i => cnt k i + cntO k i (some g)
def decC (cnt : Int → Int → Nat) (g : Pg) : Int → Int → Nat := fun k i => cnt k i - cntO k i (some g)
theorem cntO_no {g : Pg} (h : ∀ k, g.src ≠ .obj k) (k i : Int) : cntO k i (some g) = 0 := by
  simp [cntO, showsO, h k]
theorem cntO_is {g : Pg} {k0 i0 : Int} (h1 : g.sh = true) (h2 : g.src = .obj k0) (h3 : g.ix = some i0) (k i : Int) : cntO k i (some g) = if k = k0 ∧ i = i0 then 1 else 0 := by
  simp only [cntO, showsO, h1, h2, h3, Bool.true_and, Bool.and_eq_true, decide_eq_true_eq]
  by_cases e : k = k0 ∧ i = i0
  · obtain ⟨rfl, rfl⟩ := e
    simp
  · have : ¬ (Src.obj k0 = .obj k ∧ some i0 = some i) := fun z => e ⟨(Src.obj.inj z.1).symm, (Option.some.inj z.2).symm⟩
    rw [if_neg this, if_neg e]
end My
namespace My
open PySem L2
theorem SyA.fresh {CS CP CH : Addr} {H : Hp} {x : Addr} {w : Wh} {S : Sys} {τ : Tm} {cnt : Int → Int → Nat} (h : SyA CS CP CH H x w S τ cnt) {q : Addr} (hq : H q = none) : τ q = none := by
  cases e : τ q with
  | none => rfl
  | some g =>
    rcases h.own q g e with z | ⟨o, z, _⟩
    · rw [z, h.hx] at hq
      cases hq
    · rw [z] at hq
      cases hq
/-- pages and tuples are not the system's own -/
theorem SyA.immN {CS CP CH : Addr} {H : Hp} {x : Addr} {w : Wh} {S : Sys} {τ : Tm} {cnt : Int → Int → Nat} (h : SyA CS CP CH H x w S τ cnt) {b : Addr} {o : HO} (e : H b = some o) (i : isImm o = true) : τ b = none := by
  cases t : τ b with
  | none => rfl
  | some g =>
    rcases h.own b g t with z | ⟨o', z, z'⟩
    · rw [z, h.hx] at e
      cases e
      cases i
    · rw [z] at e
      cases e
      cases o <;> first | (cases i; done) | (cases z'; done) | (simp only [isImm, isBox, beq_iff_eq] at i z'; omega)
theorem SyA.imm {CS CP CH : Addr} {H H' : Hp} {x : Addr} {w : Wh} {S : Sys} {τ τ' : Tm} {cnt : Int → Int → Nat} (h : SyA CS CP CH H x w S τ cnt) (g : Go τ H τ' H') : ImmK H H' := fun b o e i => g.fr b o (h.immN e i) e
end My
namespace My
open PySem L2
def PgV (CP : Addr) (H : Hp) (v : V) : Option Pg → Prop
  | none => v = .non
  | some g => WfP g ∧ ∃ p, v = .ref p ∧ PgR CP H p g
theorem PgV.keep {CP : Addr} {H H' : Hp} {v : V} {g : Option Pg} (h : PgV CP H v g) (k : ImmK H H') : PgV CP H' v g := by
  cases g with
  | none => exact h
  | some g => obtain ⟨a, p, e, b⟩ := h; exact ⟨a, p, e, b.keep k⟩
def XsR (CP : Addr) (H : Hp) : List V → List Pg → Prop
  | [], [] => True
  | v :: xs, g :: gs => PgV CP H v (some g) ∧ XsR CP H xs gs
  | _, _ => False
theorem XsR.keep {CP : Addr} {H H' : Hp} (k : ImmK H H') : ∀ {xs : List V} {gs : List Pg}, XsR CP H xs gs → XsR CP H' xs gs
  | [], [], _ => True.intro
  | _ :: _, _ :: _, h => ⟨h.1.keep k, XsR.keep k h.2⟩
theorem XsR.snoc {CP : Addr} {H : Hp} {v : V} {g : Pg} (hv : PgV CP H v (some g)) : ∀ {xs : List V} {gs : List Pg}, XsR CP H xs gs → XsR CP H (xs ++ [v]) (gs ++ [g])
  | [], [], _ => ⟨hv, True.intro⟩
  | _ :: _, _ :: _, h => ⟨h.1, XsR.snoc hv h.2⟩
theorem XsR.get {CP : Addr} {H : Hp} : ∀ {xs : List V} {gs : List Pg} {j : Nat} {v : V}, XsR CP H xs gs → xs[j]? = some v → ∃ g, gs[j]? = some g ∧ PgV CP H v (some g)
  | _ :: _, g :: _, 0, _, h, e => by
    have e' := Option.some.inj e
    subst e'
    exact ⟨g, rfl, h.1⟩
  | _ :: xs, _ :: gs, j + 1, v, h, e => XsR.get (j := j) h.2 e
theorem XsR.length {CP : Addr} {H : Hp} : ∀ {xs : List V} {gs : List Pg}, XsR CP H xs gs → xs.length = gs.length
  | [], [], _ => rfl
  | _ :: _, _ :: _, h => congrArg (· + 1) (XsR.length h.2)
def LsR (CP : Addr) (H : Hp) : List (Key × V) → List (Int × Option Pg) → Prop
  | [], [] => True
  | kv :: ls, q :: ch => (kv.1 = Sum.inl q.1 ∧ PgV CP H kv.2 q.2) ∧ LsR CP H ls ch
  | _, _ => False
theorem LsR.keep {CP : Addr} {H H' : Hp} (k : ImmK H H') : ∀ {ls : List (Key × V)} {ch : List (Int × Option Pg)}, LsR CP H ls ch → LsR CP H' ls ch
  | [], [], _ => True.intro
  | _ :: _, _ :: _, h => ⟨⟨h.1.1, h.1.2.keep k⟩, LsR.keep k h.2⟩
theorem LsR.get {CP : Addr} {H : Hp} : ∀ {ls : List (Key × V)} {ch : List (Int × Option Pg)} {j : Nat} {kv : Key × V}, LsR CP H ls ch → ls[j]? = some kv → ∃ q, ch[j]? = some q ∧ kv.1 = Sum.inl q.1 ∧ PgV CP H kv.2 q.2
  | _ :: _, q :: _, 0, _, h, e => by
    have e' := Option.some.inj e
    subst e'
    exact ⟨q, rfl, h.1⟩
  | _ :: ls, _ :: ch, j + 1, v, h, e => LsR.get (j := j) h.2 e
theorem LsR.length {CP : Addr} {H : Hp} : ∀ {ls : List (Key × V)} {ch : List (Int × Option Pg)}, LsR CP H ls ch → ls.length = ch.length
  | [], [], _ => rfl
  | _ :: _, _ :: _, h => congrArg (· + 1) (LsR.length h.2)
theorem LsR.snoc {CP : Addr} {H : Hp} {kv : Key × V} {q : Int × Option Pg} (h0 : kv.1 = Sum.inl q.1) (hv : PgV CP H kv.2 q.2) : ∀ {ls : List (Key × V)} {ch : List (Int × Option Pg)}, LsR CP H ls ch → LsR CP H (ls ++ [kv]) (ch ++ [q])
  | [], [], _ => ⟨⟨h0, hv⟩, True.intro⟩
  | _ :: _, _ :: _, h => ⟨h.1, LsR.snoc h0 hv h.2⟩
theorem appT_snoc (P : Tb) (ch : List (Int × Option Pg)) (q : Int × Option Pg) : appT P (ch ++ [q]) = setT (appT P ch) q.1 q.2 := by
  unfold appT
  rw [List.foldl_append]
  rfl
theorem take_succ {α : Type} {l : List α} {j : Nat} {x : α} (h : l[j]? = some x) : l.take (j + 1) = l.take j ++ [x] := by
  rw [List.take_succ, h]
  rfl
theorem setTab_two (S : Sys) (i : Int) (a b : Option Tb) : (S.setTab i a).setTab i b = S.setTab i b := by
  show ({ S with tabs := fun j => if j = i then b else if j = i then a else S.tabs j } : Sys) = { S with tabs := fun j => if j = i then b else S.tabs j }
  congr 1
  funext j
  by_cases e : j = i
  · rw [if_pos e, if_pos e]
  · rw [if_neg e, if_neg e, if_neg e]
theorem setTab_at (S : Sys) (i : Int) (a : Option Tb) : (S.setTab i a).tabs i = a := if_pos rfl
theorem setTab_ne {S : Sys} {i j : Int} {a : Option Tb} (h : j ≠ i) : (S.setTab i a).tabs j = S.tabs j := if_neg h
theorem setTab_id {S : Sys} {i : Int} {P : Tb} (h : S.tabs i = some P) : S.setTab i (some P) = S := by
  show ({ S with tabs := fun j => if j = i then some P else S.tabs j } : Sys) = S
  have : (fun j => if j = i then some P else S.tabs j) = S.tabs := by
    funext j
    by_cases e : j = i
    · rw [if_pos e, e, h]
    · rw [if_neg e]
  rw [this]
def cO (k i : Int) : Option Tb → Nat
  | some P => cntT P k i
  | none => 0
theorem cntS_eq (S : Sys) (k i : Int) : cntS S k i = sumN 1001 fun j => cO k i (S.tabs j) := by
  unfold cntS
  congr 1
theorem cntS_set {S : Sys} {i : Int} {a : Option Tb} (h0 : 0 ≤ i) (h1 : i ≤ 1000) (k m : Int) : cntS (S.setTab i a) k m + cO k m (S.tabs i) = cntS S k m + cO k m a := by
  rw [cntS_eq, cntS_eq]
  have := sumN_upd (n := 1001) (g := fun j => cO k m (S.tabs j)) (h := fun j => cO k m ((S.setTab i a).tabs j)) (i := i) h0 (by omega) (fun j hj => by simp only [setTab_ne hj])
  simp only [setTab_at] at this
  exact this
theorem cntS_app {S : Sys} {i : Int} {P : Tb} {ch : List (Int × Option Pg)} (h0 : 0 ≤ i) (h1 : i ≤ 1000) (e : S.tabs i = some P) (nd : (ch.map (·.1)).Nodup) (hb : ∀ q ∈ ch, 0 ≤ q.1 ∧ q.1 < 512) (k m : Int) :
    cntS S k m + occ (ch.filterMap (·.2)) k m - occ (ch.filterMap fun q => P q.1) k m = cntS (S.setTab i (some (appT P ch))) k m ∧ occ (ch.filterMap fun q => P q.1) k m ≤ cntS S k m := by
  have a := cntS_set (S := S) (a := some (appT P ch)) h0 h1 k m
  have b := appT_cnt ch P nd hb k m
  have c := occ_old ch P nd hb k m
  have d : cntT P k m ≤ cntS S k m := by
    have := cntS_set (S := S) (a := none) h0 h1 k m
    rw [e] at this
    simp only [cO] at this
    omega
  rw [e] at a
  simp only [cO] at a
  omega
theorem occ_le_take (L : List Pg) (j : Nat) (k i : Int) : occ (L.take j) k i ≤ occ L k i := by
  have : occ L k i = occ (L.take j) k i + occ (L.drop j) k i := by rw [← occ_append, List.take_append_drop]
  omega
end My
namespace My
open PySem L2
theorem tab_put {CP : Addr} {H : Hp} {d : Addr} {P : Tb} {kvs : List (Key × V)} {f : Int → Option V} {n : Int} {p : Addr} {g : Pg} (hd : H d = some (.dK kvs)) (di : DI kvs f) (pg : ∀ i, PgO CP H i (f i) (P i)) (b : 0 ≤ n ∧ n < 512) (wf : WfP g) (hp : PgR CP H p g) :
    TabR CP (upd H d (.dK (putK kvs (Sum.inl n) (.ref p)))) d (setT P n (some g)) := by
  have im : ImmK H (upd H d (.dK (putK kvs (Sum.inl n) (.ref p)))) := ImmK.upd hd rfl
  refine ⟨_, _, upd_same, di.put n _, fun i => ?_⟩
  by_cases e : i = n
  · subst e
    simp only [setT, if_pos]
    exact ⟨b, wf, p, rfl, hp.keep im⟩
  · simp only [setT, if_neg e]
    exact (pg i).keep im
theorem tab_drop {CP : Addr} {H : Hp} {d : Addr} {P : Tb} {kvs : List (Key × V)} {f : Int → Option V} {n : Int} (hd : H d = some (.dK kvs)) (di : DI kvs f) (pg : ∀ i, PgO CP H i (f i) (P i)) :
    TabR CP (upd H d (.dK (dropK kvs (Sum.inl n)))) d (setT P n none) := by
  have im : ImmK H (upd H d (.dK (dropK kvs (Sum.inl n)))) := ImmK.upd hd rfl
  refine ⟨_, _, upd_same, di.drop n, fun i => ?_⟩
  by_cases e : i = n
  · subst e
    simp only [setT, if_pos]
    exact True.intro
  · simp only [setT, if_neg e]
    exact (pg i).keep im
theorem setT_none {P : Tb} {n : Int} (h : P n = none) : setT P n none = P := by
  funext j
  show (if j = n then none else P j) = P j
  by_cases e : j = n
  · rw [if_pos e, e, h]
  · rw [if_neg e]
theorem PgO.none_iff {CP : Addr} {H : Hp} {i : Int} {v : Option V} {g : Option Pg} (h : PgO CP H i v g) : v = none ↔ g = none := by
  match v, g, h with
  | none, none, _ => exact ⟨fun _ => rfl, fun _ => rfl⟩
  | some v, some g, _ => exact ⟨fun z => (nomatch z), fun z => (nomatch z)⟩
end My
namespace My
open PySem L2
/-- what a dict's keys among the pages are -/
def KS (f : Int → Bool) (kvs : List (Key × V)) : Prop := ∀ k : Int, (valV kvs (Sum.inl k)).isSome = f k
/-- how many pages up to the n-th are free in a row -/
def runN (f : Int → Bool) : Nat → Int
  | 0 => 0
  | n + 1 => if f (n : Int) then 0 else runN f n + 1
def runs (f : Int → Bool) (n : Nat) : List Int := (List.range n).map fun i => runN f (i + 1)
theorem runs_succ (f : Int → Bool) (n : Nat) : runs f (n + 1) = runs f n ++ [runN f (n + 1)] := by
  unfold runs
  rw [List.range_succ, List.map_append]
  rfl
theorem runN_at (f : Int → Bool) (n : Nat) : 0 ≤ runN f n ∧ runN f n ≤ n := by
  induction n with
  | zero => exact ⟨Int.le_refl _, Int.le_refl _⟩
  | succ n ih =>
    unfold runN
    split <;> omega
/-- the first page of the lowest gap -/
def fits (f : Int → Bool) (c : Int) : V := match (List.range 512).find? (fun i => runN f (i + 1) == c) with
  | some i => .int ((i : Int) - c + 1)
  | none => .non
theorem fits_at {f : Int → Bool} {c : Int} {i : Nat} (hi : i < 512) (he : runN f (i + 1) = c) (hb : ∀ j, j < i → runN f (j + 1) ≠ c) : fits f c = .int ((i : Int) - c + 1) := by
  have : (List.range 512).find? (fun i => runN f (i + 1) == c) = some i := by
    rw [List.find?_range_eq_some]
    refine ⟨by simpa using he, List.mem_range.mpr hi, fun j hj => ?_⟩
    have := hb j hj
    simpa using this
  unfold fits
  rw [this]
theorem fits_no {f : Int → Bool} {c : Int} (hb : ∀ j, j < 512 → runN f (j + 1) ≠ c) : fits f c = .non := by
  have : (List.range 512).find? (fun i => runN f (i + 1) == c) = none := by
    rw [List.find?_eq_none]
    intro j hj
    have := hb j (List.mem_range.mp hj)
    simpa using this
  unfold fits
  rw [this]
def placeV (f : Int → Bool) (c : Int) (at_ : V) : V := if at_ = .non then fits f c else at_
theorem fits_any (f : Int → Bool) (c : Int) (H : Hp) : AnyV H (fits f c) ∧ (fits f c = .non ∨ ∃ i, fits f c = .int i) := by
  unfold fits
  split
  · exact ⟨.int _, .inr ⟨_, rfl⟩⟩
  · exact ⟨.non, .inl rfl⟩
/-- whether a value is one of some texts -/
def isW (xs : List V) (v : V) : Bool := isS v && inV v xs
abbrev FO : List V := [.str "file", .str "object"]
abbrev RTS : List V := [.str "none", .str "r", .str "rw"]
def SrcC (NP NF : Addr) (H : Hp) (fls : Str → Bool) (cnt : Int → Int → Nat) (sov : V) (sh : Bool) (E : XK) (K : Src → Prop) : Prop :=
  (sov = .non → K .non) ∧ ((sov ≠ .non ∧ ¬ ∃ a k nm, sov = .ref a ∧ H a = some (.tup [k, nm])) → Rz NP "part" (.str "source") H E) ∧
  ∀ a kd nm, sov = .ref a → H a = some (.tup [kd, nm]) → AnyV H kd ∧ AnyV H nm ∧ (isW FO kd = false → Rz NP "part" (.str "source") H E) ∧
    (kd = .str "file" → (∀ n, nm = .str n → fls n = true → K (.file n)) ∧ ((∀ n, nm = .str n → fls n = false) → Rz NF "name" nm H E)) ∧
    (kd = .str "object" → (∀ j, nm = .int j → sh = true → (∃ i, cnt j i ≠ 0) → K (.obj j)) ∧ (¬ (sh = true ∧ ∃ j, nm = .int j ∧ ∃ i, cnt j i ≠ 0) → Rz NP "part" (.str "source") H E))
theorem SrcC.mono {NP NF : Addr} {H : Hp} {fls : Str → Bool} {cnt : Int → Int → Nat} {sov : V} {sh : Bool} {E : XK} {K K' : Src → Prop} (h : SrcC NP NF H fls cnt sov sh E K)
    (k : ∀ s, srcR H sov s → (∀ j, s = .obj j → sh = true ∧ ∃ i, cnt j i ≠ 0) → (∀ n, s = .file n → fls n = true) → K s → K' s) : SrcC NP NF H fls cnt sov sh E K' := by
  obtain ⟨h1, h2, h3⟩ := h
  refine ⟨fun e => k _ e (fun j z => by cases z) (fun j z => by cases z) (h1 e), h2, fun a kd nm e1 e2 => ?_⟩
  obtain ⟨a1, a2, a3, a4, a5⟩ := h3 a kd nm e1 e2
  refine ⟨a1, a2, a3, fun e => ⟨fun n en hn => ?_, (a4 e).2⟩, fun e => ⟨fun j ej hs hc => ?_, (a5 e).2⟩⟩
  · refine k (.file n) ⟨a, e1, ?_⟩ (fun j z => by cases z) (fun j z => by cases z; exact hn) ((a4 e).1 n en hn)
    rw [e2, e, en]
  · refine k (.obj j) ⟨a, e1, ?_⟩ (fun j' z => ?_) (fun j z => by cases z) ((a5 e).1 j ej hs hc)
    · rw [e2, e, ej]
    · cases z
      exact ⟨hs, hc⟩
theorem SrcC.same {NP NF : Addr} {H H' : Hp} {fls : Str → Bool} {cnt : Int → Int → Nat} {sov : V} {sh : Bool} {E : XK} {K : Src → Prop} (h : SrcC NP NF H fls cnt sov sh E K) (s : Same H H') (ha : AnyV H sov) : SrcC NP NF H' fls cnt sov sh E K := by
  obtain ⟨h1, h2, h3⟩ := h
  have back : ∀ {a : Addr} {xs : List V}, sov = .ref a → H' a = some (.tup xs) → H a = some (.tup xs) := fun e e' => by
    subst e
    cases ha with
    | lst z => rw [s _ _ z] at e'; cases e'
    | tup z => rw [s _ _ z] at e'; cases e'; exact z
    | dK z => rw [s _ _ z] at e'; cases e'
  refine ⟨h1, fun z => (h2 ⟨z.1, fun ⟨a, k, nm, e1, e2⟩ => z.2 ⟨a, k, nm, e1, s _ _ e2⟩⟩).same s, fun a kd nm e1 e2 => ?_⟩
  obtain ⟨a1, a2, a3, a4, a5⟩ := h3 a kd nm e1 (back e1 e2)
  exact ⟨a1.same s, a2.same s, fun z => (a3 z).same s, fun e => ⟨(a4 e).1, fun z => ((a4 e).2 z).same s⟩, fun e => ⟨(a5 e).1, fun z => ((a5 e).2 z).same s⟩⟩
def newCh (f : Int) (c : Nat) (g : Nat → Pg) : List (Int × Option Pg) := (List.range c).map fun (k : Nat) => (f + (k : Int), some (g k))
theorem newCh_succ (f : Int) (c : Nat) (g : Nat → Pg) : newCh f (c + 1) g = newCh f c g ++ [(f + (c : Int), some (g c))] := by
  unfold newCh
  rw [List.range_succ, List.map_append]
  rfl
theorem newCh_mem {f : Int} {c : Nat} {g : Nat → Pg} {q : Int × Option Pg} (h : q ∈ newCh f c g) : ∃ k, k < c ∧ q = (f + (k : Int), some (g k)) := by
  obtain ⟨k, hk, rfl⟩ := List.mem_map.mp h
  exact ⟨k, List.mem_range.mp hk, rfl⟩
theorem newCh_nod (f : Int) (c : Nat) (g : Nat → Pg) : ((newCh f c g).map (·.1)).Nodup := by
  unfold newCh
  rw [List.map_map]
  refine List.pairwise_map.mpr ?_
  refine List.nodup_range.imp fun {a b} h e => h ?_
  have : f + (a : Int) = f + (b : Int) := e
  omega
theorem LsR.val_none {CP : Addr} {H : Hp} {n : Int} : ∀ {ls : List (Key × V)} {ch : List (Int × Option Pg)}, LsR CP H ls ch → (∀ q ∈ ch, q.1 ≠ n) → valV ls (Sum.inl n) = none
  | [], [], _, _ => rfl
  | kv :: ls, q :: ch, h, hn => by
    rw [valV_neg (fun e => hn q List.mem_cons_self (by rw [h.1.1] at e; exact Sum.inl.inj e))]
    exact LsR.val_none h.2 fun z hz => hn z (List.mem_cons_of_mem _ hz)
def fl0 : Fl := ⟨false, false, false⟩
def newPg (r : Str) (sh : Bool) (s : Src) (i0 : Int) (k : Int) : Pg := ⟨r, sh, s, if s = .non then none else some (i0 + k), fl0⟩
def mapT (T : Tb) (f c : Int) (r : Str) (sh : Bool) (s : Src) (i0 : Int) : Tb := fun n => if f ≤ n ∧ n < f + c then some (newPg r sh s i0 (n - f)) else T n
theorem appT_new (T : Tb) (f : Int) (c : Nat) (r : Str) (sh : Bool) (s : Src) (i0 : Int) : appT T (newCh f c fun k => newPg r sh s i0 (k : Int)) = mapT T f (c : Int) r sh s i0 := by
  funext n
  unfold mapT
  split
  · rename_i h
    refine appT_in (newCh_nod _ _ _) ?_
    refine List.mem_map.mpr ⟨(n - f).toNat, List.mem_range.mpr (by omega), ?_⟩
    have e : (((n - f).toNat : Nat) : Int) = n - f := Int.toNat_of_nonneg (by omega)
    show (f + (((n - f).toNat : Nat) : Int), some (newPg r sh s i0 (((n - f).toNat : Nat) : Int))) = (n, some (newPg r sh s i0 (n - f)))
    rw [e, show f + (n - f) = n by omega]
  · rename_i h
    refine appT_out fun q hq e => ?_
    obtain ⟨k, hk, rfl⟩ := newCh_mem hq
    simp only at e
    omega
def mapS (S : Sys) (i : Int) (T : Tb) (f c : Int) (r : Str) (sh : Bool) (s : Src) (i0 : Int) : Sys :=
  let mk := sh && decide (s = .non)
  let S1 : Sys := { S with o := if mk = true then S.o + 1 else S.o }
  { S1.setTab i (some (mapT T f c r sh (if mk = true then .obj (S.o + 1) else s) i0)) with n := S.n + 1 }
theorem cntS_tabs {S S' : Sys} (e : S.tabs = S'.tabs) : cntS S = cntS S' := by
  unfold cntS
  rw [e]
theorem SyA.cntPos {CS CP CH : Addr} {H : Hp} {x : Addr} {w : Wh} {S : Sys} {τ : Tm} {cnt : Int → Int → Nat} (h : SyA CS CP CH H x w S τ cnt) {k i : Int} (c : cnt k i ≠ 0) : 1 ≤ k ∧ k ≤ S.o := by
  obtain ⟨kvs, f, h1, h2, h3⟩ := h.obs
  have z := h3 k
  cases e : f k with
  | none => rw [e] at z; exact absurd (z i) c
  | some v => rw [e] at z; exact z.1
end My
namespace My
open PySem L2
theorem eqV_str {a b : Str} (h : eqV (.str a) (.str b) = true) : b = a := by
  have h' : decide (a = b) = true := h
  exact (of_decide_eq_true h').symm
theorem inW_two {n a b : Str} (h : inV (.str n) [.str a, .str b] = true) : V.str n = .str a ∨ V.str n = .str b := by
  unfold inV at h
  rw [List.any_cons, List.any_cons, List.any_nil, Bool.or_false, Bool.or_eq_true] at h
  rcases h with z | z
  · exact .inl (by rw [eqV_str z])
  · exact .inr (by rw [eqV_str z])
end My
namespace My
open PySem L2
/-- both ways of a if t else b give the same value, the heap as it was -/
theorem tIf_val {t : TT} {ta tb : TE} {σ : St} {H : Hp} {Q : VK} {v : V} {b : Bool} (hc : ∀ Q' : Bool → Hp → Prop, Q' b H → t σ H Q') (h1 : b = true → ∀ Q' : VK, Q' v H → ta σ H Q') (h2 : b = false → ∀ Q' : VK, Q' v H → tb σ H Q') (k : Q v H) : tIf t ta tb σ H Q :=
  hc _ (iteB (fun e => h1 e _ k) (fun e => h2 e _ k))
end My
namespace My
open PySem L2
theorem tAndV_val {t u : TE} {σ : St} {H : Hp} {Q : VK} {b c : Bool} (h1 : ∀ Q' : VK, Q' (.bl b) H → t σ H Q') (h2 : b = true → ∀ Q' : VK, Q' (.bl c) H → u σ H Q') (k : Q (.bl (b && c)) H) : tAndV t u σ H Q :=
  h1 _ ⟨b, rfl, iteB (fun e => h2 e _ (by rw [e] at k; exact k)) (fun e => by rw [e] at k; exact k)⟩
theorem tIf_ex {t : TT} {ta tb : TE} {σ : St} {H : Hp} {Q : VK} {b : Bool} (Pv : V → Hp → Prop) (hc : ∀ Q' : Bool → Hp → Prop, Q' b H → t σ H Q') (h1 : b = true → ∀ Q' : VK, (∀ v H', Pv v H' → Q' v H') → ta σ H Q')
    (h2 : b = false → ∀ Q' : VK, (∀ v H', Pv v H' → Q' v H') → tb σ H Q') (k : ∀ v H', Pv v H' → Q v H') : tIf t ta tb σ H Q :=
  hc _ (iteB (fun e => h1 e _ k) (fun e => h2 e _ k))
theorem tIfS_ex {c : TT} {t u : TS} {D : Ends} {σ : St} {H : Hp} {b : Bool} (Pv : St → Hp → Prop) (hc : ∀ Q' : Bool → Hp → Prop, Q' b H → c σ H Q') (h1 : b = true → ∀ D' : Ends, (∀ σ' H', Pv σ' H' → D'.nx σ' H') → t D' σ H)
    (h2 : b = false → ∀ D' : Ends, (∀ σ' H', Pv σ' H' → D'.nx σ' H') → u D' σ H) (k : ∀ σ' H', Pv σ' H' → D.nx σ' H') : tIfS c t u D σ H :=
  hc _ (iteB (fun e => h1 e _ k) (fun e => h2 e _ k))
/-- a page laid anew by its __init__ -/
theorem same_made {H1 H2 : Hp} {y dy : Addr} {o u : HO} (hy : H1 y = none) (hdy : H1 dy = none) (b2 : But y (upd (upd H1 dy o) y u) H2) : Same H1 H2 := fun b o' ho => by
  refine b2 b o' (ne_of_none ho hy) ?_
  rw [upd_ne (ne_of_none ho hy), upd_ne (ne_of_none ho hdy)]
  exact ho
end My
namespace My
open PySem L2
theorem inW_three {n a b c : Str} (h : inV (.str n) [.str a, .str b, .str c] = true) : n = a ∨ n = b ∨ n = c := by
  unfold inV at h
  rw [List.any_cons, List.any_cons, List.any_cons, List.any_nil, Bool.or_false, Bool.or_eq_true, Bool.or_eq_true] at h
  rcases h with z | z | z
  · exact .inl (eqV_str z)
  · exact .inr (.inl (eqV_str z))
  · exact .inr (.inr (eqV_str z))
theorem okRts {r : Str} (h : isW RTS (.str r) = true) : PyData.strOk r = true := by
  have h' : inV (.str r) RTS = true := h
  rcases inW_three h' with rfl | rfl | rfl <;> decide +kernel
theorem SyA.okName {CS CP CH : Addr} {H : Hp} {x : Addr} {w : Wh} {S : Sys} {τ : Tm} {cnt : Int → Int → Nat} (h : SyA CS CP CH H x w S τ cnt) {n : Str} (e : S.fls n = true) : PyData.strOk n = true := by
  obtain ⟨_, _, _, _, z⟩ := h.fis
  exact z n e
/-- a page's object is known -/
theorem SyA.pgOb {CS CP CH : Addr} {H : Hp} {x : Addr} {w : Wh} {S : Sys} {τ : Tm} (h : SyR CS CP CH H x w S τ) {i : Int} {T : Tb} (e : S.tabs i = some T) {n : Int} {g : Pg} (eg : T n = some g) {j : Int} (ej : g.src = .obj j) : 1 ≤ j ∧ j ≤ S.o := by
  obtain ⟨d, hd⟩ := h.living e
  obtain ⟨bi, _, kvs, f, _, _, pg⟩ := h.tabE hd e
  have z := pg n
  rw [eg] at z
  cases ev : f n with
  | none => rw [ev] at z; exact z.elim
  | some v =>
    rw [ev] at z
    obtain ⟨⟨n0, n1⟩, wf, _⟩ := z
    obtain ⟨ix, ei, _⟩ := wf.ix (by rw [ej]; simp)
    refine h.cntPos (k := j) (i := ix) ?_
    have a := cntS_set (S := S) (a := none) (i := i) (by omega) (by have := h.bp.2; omega) j ix
    rw [e] at a
    simp only [cO] at a
    have b : 0 < cntT T j ix := by
     unfold cntT
     exact sumN_pos.mpr ⟨n, n0, by omega, by rw [eg, cntO_is (wf.ob j ej) ej ei, if_pos ⟨rfl, rfl⟩]; exact Nat.one_pos⟩
    omega
theorem tOrV_val {t u : TE} {σ : St} {H : Hp} {Q : VK} {b c : Bool} (h1 : ∀ Q' : VK, Q' (.bl b) H → t σ H Q') (h2 : b = false → ∀ Q' : VK, Q' (.bl c) H → u σ H Q') (k : Q (.bl (b || c)) H) : tOrV t u σ H Q :=
  h1 _ ⟨b, rfl, iteB (fun e => by rw [e] at k; exact k) (fun e => h2 e _ (by rw [e] at k; exact k))⟩
/-- a dict comprehension over a walk -/
theorem dc_walk {J : It} {n : Nat} {G : Hp → Prop} {Y : Nat → Hp → V → Hp → Prop} (w : Walk J n G Y) {g : TG} {tt : TT} {tk tv : TE} {vs : List Nat} {σ : St} {H1 : Hp} {D : Addr} {Qd : Hp → Prop} (Pv : Nat → Hp → Prop) (start : Pv 0 (upd H1 D (.dK [])))
    (stands : ∀ i H, i ≤ n → Pv i H → G H) (turn : ∀ i x H H', i < n → Pv i H → Y i H x H' → g x (wipe σ vs) H' fun σ2 H2 => wipe σ2 vs = wipe σ vs ∧ tt σ2 H2 fun b H3 =>
      if b = true then tk σ2 H3 fun y H4 => tv σ2 H4 fun z H5 => ∃ kvs k, y = kV k ∧ H5 D = some (.dK kvs) ∧ kvs.length < sizeLine ∧ Pv (i + 1) (upd H5 D (.dK (putK kvs k z))) else Pv (i + 1) H3) (done_ : ∀ H, Pv n H → Qd H) :
    ∃ W : Nat → Nat → Hp → Prop, (∃ m, W 0 m (upd H1 D (.dK []))) ∧ ∀ i m H, W i m H → (J.stop i H ∧ Qd H) ∨ (J.go i H ∧ ∃ Nx : Hp → Prop, (∀ H', Nx H' → ∃ m', m' < m ∧ W (i + 1) m' H') ∧ ∀ x H', J.yld i H x H' → g x (wipe σ vs) H' fun σ2 H2 => wipe σ2 vs = wipe σ vs ∧ tt σ2 H2 fun b H3 =>
      if b = true then tk σ2 H3 fun y H4 => tv σ2 H4 fun z H5 => ∃ kvs k, y = kV k ∧ H5 D = some (.dK kvs) ∧ kvs.length < sizeLine ∧ Nx (upd H5 D (.dK (putK kvs k z))) else Nx H3) := by
  refine ⟨fun i m H => i + m = n ∧ Pv i H, ⟨n, Nat.zero_add n, start⟩, fun i m H ⟨e, pv'⟩ => ?_⟩
  have st := stands i H (by omega) pv'
  cases m with
  | zero =>
    have ei : i = n := by omega
    subst ei
    exact .inl ⟨w.stops H st, done_ H pv'⟩
  | succ m =>
    have lt : i < n := by omega
    exact .inr ⟨w.goes i H lt st, Pv (i + 1), fun H' z => ⟨m, Nat.lt_succ_self m, by omega, z⟩, fun x H' y => turn i x H H' lt pv' (w.yields i H x H' lt st y)⟩
def unmT (T : Tb) (f c : Int) : Tb := fun n => if f ≤ n ∧ n < f + c then none else T n
def delCh (T : Tb) (f : Int) (c : Nat) : List (Int × Option Pg) := ((List.range c).filter fun (k : Nat) => (T (f + (k : Int))).isSome).map fun (k : Nat) => (f + (k : Int), none)
theorem delCh_succ (T : Tb) (f : Int) (c : Nat) : delCh T f (c + 1) = delCh T f c ++ (if (T (f + (c : Int))).isSome = true then [(f + (c : Int), none)] else []) := by
  unfold delCh
  rw [List.range_succ, List.filter_append, List.map_append]
  congr 1
  rw [List.filter_cons]
  split <;> rfl
theorem delCh_mem {T : Tb} {f : Int} {c : Nat} {q : Int × Option Pg} (h : q ∈ delCh T f c) : ∃ k, k < c ∧ q = (f + (k : Int), none) ∧ (T (f + (k : Int))).isSome = true := by
  obtain ⟨k, hk, rfl⟩ := List.mem_map.mp h
  obtain ⟨h1, h2⟩ := List.mem_filter.mp hk
  exact ⟨k, List.mem_range.mp h1, rfl, h2⟩
theorem delCh_nod (T : Tb) (f : Int) (c : Nat) : ((delCh T f c).map (·.1)).Nodup := by
  unfold delCh
  rw [List.map_map]
  refine List.pairwise_map.mpr ((List.Pairwise.filter _ List.nodup_range).imp fun {a b} h e => h ?_)
  have : f + (a : Int) = f + (b : Int) := e
  omega
theorem delCh_length (T : Tb) (f : Int) (c : Nat) : (delCh T f c).length ≤ c := by
  unfold delCh
  rw [List.length_map]
  have := List.length_filter_le (fun (k : Nat) => (T (f + (k : Int))).isSome) (List.range c)
  rw [List.length_range] at this
  exact this
theorem appT_del (T : Tb) (f : Int) (c : Nat) : appT T (delCh T f c) = unmT T f (c : Int) := by
  funext n
  unfold unmT
  split
  · rename_i h
    have e : (((n - f).toNat : Nat) : Int) = n - f := Int.toNat_of_nonneg (by omega)
    have e2 : f + (((n - f).toNat : Nat) : Int) = n := by omega
    cases eT : T n with
    | none =>
      rw [appT_out fun q hq z => ?_, eT]
      obtain ⟨k, hk, rfl, hs⟩ := delCh_mem hq
      simp only at z
      rw [z, eT] at hs
      cases hs
    | some g =>
      refine appT_in (delCh_nod _ _ _) (List.mem_map.mpr ⟨(n - f).toNat, List.mem_filter.mpr ⟨List.mem_range.mpr (by omega), by rw [e2, eT]; rfl⟩, by rw [e2]⟩)
  · rename_i h
    refine appT_out fun q hq e => ?_
    obtain ⟨k, hk, rfl, _⟩ := delCh_mem hq
    simp only at e
    omega
def unmS (S : Sys) (i : Int) (T : Tb) (f c : Int) : Sys := { S.setTab i (some (unmT T f c)) with n := S.n + 1 }
def movT (T : Tb) (f c t : Int) : Tb := fun n => if t ≤ n ∧ n < t + c then T (n - t + f) else if f ≤ n ∧ n < f + c then none else T n
def movS (S : Sys) (i : Int) (T : Tb) (f c t : Int) : Sys := { S.setTab i (some (movT T f c t)) with n := S.n + 1 }
def nonCh (f : Int) (c : Nat) : List (Int × Option Pg) := (List.range c).map fun (k : Nat) => (f + (k : Int), none)
def cpyCh (T : Tb) (f t : Int) (c : Nat) : List (Int × Option Pg) := (List.range c).map fun (k : Nat) => (t + (k : Int), T (f + (k : Int)))
theorem nonCh_succ (f : Int) (c : Nat) : nonCh f (c + 1) = nonCh f c ++ [(f + (c : Int), none)] := by
  unfold nonCh
  rw [List.range_succ, List.map_append]
  rfl
theorem cpyCh_succ (T : Tb) (f t : Int) (c : Nat) : cpyCh T f t (c + 1) = cpyCh T f t c ++ [(t + (c : Int), T (f + (c : Int)))] := by
  unfold cpyCh
  rw [List.range_succ, List.map_append]
  rfl
theorem nonCh_mem {f : Int} {c : Nat} {q : Int × Option Pg} (h : q ∈ nonCh f c) : ∃ k, k < c ∧ q = (f + (k : Int), none) := by
  obtain ⟨k, hk, rfl⟩ := List.mem_map.mp h
  exact ⟨k, List.mem_range.mp hk, rfl⟩
theorem cpyCh_mem {T : Tb} {f t : Int} {c : Nat} {q : Int × Option Pg} (h : q ∈ cpyCh T f t c) : ∃ k, k < c ∧ q = (t + (k : Int), T (f + (k : Int))) := by
  obtain ⟨k, hk, rfl⟩ := List.mem_map.mp h
  exact ⟨k, List.mem_range.mp hk, rfl⟩
theorem rng_nod (f : Int) (c : Nat) : ((List.range c).map fun (k : Nat) => f + (k : Int)).Nodup := List.pairwise_map.mpr (List.nodup_range.imp fun {a b} h e => h (by
  have : f + (a : Int) = f + (b : Int) := e
  omega))
theorem mov_nod (T : Tb) {f t : Int} {c : Nat} (d : t + c ≤ f ∨ f + c ≤ t) : ((nonCh f c ++ cpyCh T f t c).map (·.1)).Nodup := by
  rw [List.map_append]
  unfold nonCh cpyCh
  rw [List.map_map, List.map_map]
  refine List.nodup_append.mpr ⟨rng_nod f c, rng_nod t c, fun a ha b hb e => ?_⟩
  obtain ⟨k, hk, rfl⟩ := List.mem_map.mp ha
  obtain ⟨k', hk', rfl⟩ := List.mem_map.mp hb
  have h1 := List.mem_range.mp hk
  have h2 := List.mem_range.mp hk'
  have : f + (k : Int) = t + (k' : Int) := e
  omega
theorem appT_mov (T : Tb) {f t : Int} {c : Nat} (d : t + c ≤ f ∨ f + c ≤ t) : appT T (nonCh f c ++ cpyCh T f t c) = movT T f (c : Int) t := by
  funext n
  unfold movT
  split
  · rename_i h
    have e : (((n - t).toNat : Nat) : Int) = n - t := Int.toNat_of_nonneg (by omega)
    refine appT_in (mov_nod T d) (List.mem_append_right _ (List.mem_map.mpr ⟨(n - t).toNat, List.mem_range.mpr (by omega), ?_⟩))
    show (t + (((n - t).toNat : Nat) : Int), T (f + (((n - t).toNat : Nat) : Int))) = (n, T (n - t + f))
    rw [e, show t + (n - t) = n by omega, show f + (n - t) = n - t + f by omega]
  · split
    · rename_i h1 h
      refine appT_in (mov_nod T d) (List.mem_append_left _ (List.mem_map.mpr ⟨(n - f).toNat, List.mem_range.mpr (by omega), ?_⟩))
      show (f + (((n - f).toNat : Nat) : Int), none) = (n, none)
      rw [show f + (((n - f).toNat : Nat) : Int) = n by omega]
    · rename_i h1 h2
      refine appT_out fun q hq e => ?_
      rcases List.mem_append.mp hq with z | z
      · obtain ⟨k, hk, rfl⟩ := nonCh_mem z
        simp only at e
        omega
      · obtain ⟨k, hk, rfl⟩ := cpyCh_mem z
        simp only at e
        omega
end My
namespace My
open PySem L2
def dSrc : Src → PyData
  | .non => .none
  | .file n => .tuple [.str "file", .str n]
  | .obj k => .tuple [.str "object", .int k]
def dIx : Option Int → PyData
  | none => .none
  | some i => .int i
def dFl (f : Fl) : PyData := .tuple ((flL f).map PyData.str)
def dPg (g : Pg) : PyData := .tuple [.str g.r, .bool g.sh, dSrc g.src, dIx g.ix, dFl g.fl]
theorem dSrc_eqv (a b : Src) : PyData.eqv (dSrc a) (dSrc b) = decide (a = b) := by
  cases a with
  | non => cases b <;> rfl
  | file n =>
    cases b with
    | non => rfl
    | file m =>
      show ((Str.ofString "file" == Str.ofString "file") && ((n == m) && true)) = _
      rw [show (Str.ofString "file" == Str.ofString "file") = true by decide +kernel, Bool.true_and, Bool.and_true]
      by_cases e : n = m
      · rw [e, decide_eq_true rfl]; exact beq_self_eq_true m
      · rw [decide_eq_false (fun z => e (Src.file.inj z))]; exact beq_eq_false_iff_ne.mpr e
    | obj k =>
      show ((Str.ofString "file" == Str.ofString "object") && (false && true)) = _
      rw [show (Str.ofString "file" == Str.ofString "object") = false by decide +kernel]
      rfl
  | obj k =>
    cases b with
    | non => rfl
    | file m =>
      show ((Str.ofString "object" == Str.ofString "file") && (false && true)) = _
      rw [show (Str.ofString "object" == Str.ofString "file") = false by decide +kernel]
      rfl
    | obj j =>
      show ((Str.ofString "object" == Str.ofString "object") && ((k == j) && true)) = _
      rw [show (Str.ofString "object" == Str.ofString "object") = true by decide +kernel, Bool.true_and, Bool.and_true]
      by_cases e : k = j
      · rw [e, decide_eq_true rfl]; exact beq_self_eq_true j
      · rw [decide_eq_false (fun z => e (Src.obj.inj z))]; exact beq_eq_false_iff_ne.mpr e
theorem dIx_eqv (a b : Option Int) : PyData.eqv (dIx a) (dIx b) = decide (a = b) := by
  cases a with
  | none => cases b <;> rfl
  | some i =>
    cases b with
    | none => rfl
    | some j =>
      show (i == j) = _
      by_cases e : i = j
      · rw [e, decide_eq_true rfl]; exact beq_self_eq_true j
      · rw [decide_eq_false (fun z => e (Option.some.inj z))]; exact beq_eq_false_iff_ne.mpr e
theorem dFl_eqv (a b : Fl) : PyData.eqv (dFl a) (dFl b) = decide (a = b) := by
  obtain ⟨a1, a2, a3⟩ := a
  obtain ⟨b1, b2, b3⟩ := b
  cases a1 <;> cases a2 <;> cases a3 <;> cases b1 <;> cases b2 <;> cases b3 <;> decide +kernel
theorem dPg_eqv (a b : Pg) : PyData.eqv (dPg a) (dPg b) = decide (a = b) := by
  show ((a.r == b.r) && ((a.sh == b.sh) && (PyData.eqv (dSrc a.src) (dSrc b.src) && (PyData.eqv (dIx a.ix) (dIx b.ix) && (PyData.eqv (dFl a.fl) (dFl b.fl) && true))))) = _
  rw [dSrc_eqv, dIx_eqv, dFl_eqv, Bool.and_true]
  obtain ⟨r, sh, s, i, f⟩ := a
  obtain ⟨r', sh', s', i', f'⟩ := b
  simp only
  by_cases h1 : r = r'
  · by_cases h2 : sh = sh'
    · by_cases h3 : s = s'
      · by_cases h4 : i = i'
        · by_cases h5 : f = f'
          · subst h1 h2 h3 h4 h5
            simp
          · simp [h5]
        · simp [h4]
      · simp [h3]
    · simp [h2]
  · simp [h1]
theorem shapedPg {g : Pg} (h1 : PyData.strOk g.r = true) (h2 : ∀ n, g.src = .file n → PyData.strOk n = true) : SeqAt.shaped (dPg g) = true := by
  obtain ⟨r, sh, s, i, ⟨f1, f2, f3⟩⟩ := g
  simp only at h1 h2
  have o1 : PyData.strOk (Str.ofString "file") = true := by decide +kernel
  have o2 : PyData.strOk (Str.ofString "object") = true := by decide +kernel
  have o3 : PyData.strOk (Str.ofString "merge") = true := by decide +kernel
  have o4 : PyData.strOk (Str.ofString "stay") = true := by decide +kernel
  have o5 : PyData.strOk (Str.ofString "wipe") = true := by decide +kernel
  cases s with
  | non => cases i <;> cases f1 <;> cases f2 <;> cases f3 <;> simp [SeqAt.shaped, dPg, dSrc, dIx, dFl, flL, PyData.canLay0, PyData.canLayAll0, PyData.depth, PyData.depthAll, h1, o3, o4, o5]
  | file n =>
    have h3 := h2 n rfl
    cases i <;> cases f1 <;> cases f2 <;> cases f3 <;> simp [SeqAt.shaped, dPg, dSrc, dIx, dFl, flL, PyData.canLay0, PyData.canLayAll0, PyData.depth, PyData.depthAll, h1, h3, o1, o3, o4, o5]
  | obj k => cases i <;> cases f1 <;> cases f2 <;> cases f3 <;> simp [SeqAt.shaped, dPg, dSrc, dIx, dFl, flL, PyData.canLay0, PyData.canLayAll0, PyData.depth, PyData.depthAll, h1, o2, o3, o4, o5]
theorem dpSrc {K : PySem.W.Frag} {H : Hp} {v : V} {s : Src} (h : srcR H v s) : Dp K H v (dSrc s) := by
  cases s with
  | non => cases h; exact .non
  | file n => obtain ⟨a, rfl, e⟩ := h; exact .tup (SqT.of e) (.cons (.str _) (.cons (.str _) .nil))
  | obj k => obtain ⟨a, rfl, e⟩ := h; exact .tup (SqT.of e) (.cons (.str _) (.cons (.int _) .nil))
theorem dpIx {K : PySem.W.Frag} {H : Hp} (i : Option Int) : Dp K H (ixV i) (dIx i) := by
  cases i with
  | none => exact .non
  | some j => exact .int j
theorem dpStrs {K : PySem.W.Frag} {H : Hp} : ∀ l : List Str, DpAll K H (l.map V.str) (l.map PyData.str)
  | [] => .nil
  | x :: r => .cons (.str x) (dpStrs r)
theorem dpFl {K : PySem.W.Frag} {H : Hp} {a : Addr} {f : Fl} (h : H a = some (.tup ((flL f).map V.str))) : Dp K H (.ref a) (dFl f) := .tup (SqT.of h) (dpStrs _)
theorem dpPg {K : PySem.W.Frag} {H : Hp} {q : Addr} {g : Pg} {sv : V} {fa : Addr} (h : H q = some (.tup [.str g.r, .bl g.sh, sv, ixV g.ix, .ref fa])) (hs : srcR H sv g.src) (hf : H fa = some (.tup ((flL g.fl).map V.str))) : Dp K H (.ref q) (dPg g) :=
  .tup (SqT.of h) (.cons (.str _) (.cons (.bl _) (.cons (dpSrc hs) (.cons (dpIx _) (.cons (dpFl hf) .nil)))))
def nxt (g : Pg) : Pg := { g with ix := g.ix.map (· + 1) }
def cont : Option Pg → Option Pg → Bool
  | some a, some b => decide (b = nxt a)
  | _, _ => false
def stepR (T : Tb) (acc : List (Int × Int)) (n : Int) : List (Int × Int) := match acc.getLast? with
  | some q => if cont (T (n - 1)) (T n) = true then acc.dropLast ++ [(q.1, q.2 + 1)] else acc ++ [(n, 1)]
  | none => [(n, 1)]
def keysT (T : Tb) : List Int := upTo 512 fun i => (T i).isSome
def regsK (T : Tb) (ks : List Int) : List (Int × Int) := ks.foldl (stepR T) []
def regsI (T : Tb) : List (Int × Int) := regsK T (keysT T)
theorem regsK_snoc (T : Tb) (ks : List Int) (n : Int) : regsK T (ks ++ [n]) = stepR T (regsK T ks) n := by
  unfold regsK
  rw [List.foldl_append]
  rfl
theorem stepR_ne (T : Tb) (acc : List (Int × Int)) (n : Int) : stepR T acc n ≠ [] := by
  unfold stepR
  split
  · split <;> simp
  · simp
theorem regsK_ne (T : Tb) {ks : List Int} (h : ks ≠ []) : regsK T ks ≠ [] := by
  have e : ks = ks.dropLast ++ [ks.getLast h] := (List.dropLast_concat_getLast h).symm
  rw [e, regsK_snoc]
  exact stepR_ne _ _ _
theorem regsK_start (T : Tb) : ∀ (ks : List Int), (∀ n ∈ ks, (T n).isSome = true) → ∀ q ∈ regsK T ks, (T q.1).isSome = true := by
  intro ks
  have : ∀ (l : List Int) (acc : List (Int × Int)), (∀ n ∈ l, (T n).isSome = true) → (∀ q ∈ acc, (T q.1).isSome = true) → ∀ q ∈ l.foldl (stepR T) acc, (T q.1).isSome = true := by
    intro l
    induction l with
    | nil => exact fun acc _ h => h
    | cons n r ih =>
      intro acc h1 h2
      refine ih _ (fun m hm => h1 m (List.mem_cons_of_mem _ hm)) fun q hq => ?_
      unfold stepR at hq
      have hn := h1 n List.mem_cons_self
      split at hq
      · rename_i z hz
        have hz' := h2 z (List.mem_of_getLast? hz)
        split at hq
        · rcases List.mem_append.mp hq with y | y
          · exact h2 q (List.dropLast_subset _ y)
          · rw [List.mem_singleton.mp y]
            exact hz'
        · rcases List.mem_append.mp hq with y | y
          · exact h2 q y
          · rw [List.mem_singleton.mp y]
            exact hn
      · rw [List.mem_singleton.mp hq]
        exact hn
  exact fun h => this ks [] h fun q hq => (nomatch hq)
theorem lt_take {ks : List Int} (h : ks.Pairwise (· < ·)) {i : Nat} {n m : Int} (hn : ks[i]? = some n) (hm : m ∈ ks) (lt : m < n) : m ∈ ks.take i := by
  rw [← List.take_append_drop i ks] at hm
  rcases List.mem_append.mp hm with z | z
  · exact z
  · obtain ⟨j, hj⟩ := List.mem_iff_getElem?.mp z
    rw [List.getElem?_drop] at hj
    obtain ⟨h1, e1⟩ := List.getElem?_eq_some_iff.mp hn
    obtain ⟨h2, e2⟩ := List.getElem?_eq_some_iff.mp hj
    cases j with
    | zero =>
      rw [Nat.add_zero] at hj
      rw [hn] at hj
      have := Option.some.inj hj
      omega
    | succ j =>
      have := List.pairwise_iff_getElem.mp h i (i + (j + 1)) h1 h2 (by omega)
      rw [e1, e2] at this
      omega
def RowR (H : Hp) (v : V) (q : (Int × Int) × Pg) : Prop := ∃ t sv fa, v = .ref t ∧ H t = some (.tup [.int q.1.1, .int q.1.2, .str q.2.r, .bl q.2.sh, sv, ixV q.2.ix, .ref fa]) ∧ srcR H sv q.2.src ∧ H fa = some (.tup ((flL q.2.fl).map V.str))
def RowsR (H : Hp) : List V → List ((Int × Int) × Pg) → Prop
  | [], [] => True
  | v :: vs, q :: qs => RowR H v q ∧ RowsR H vs qs
  | _, _ => False
theorem RowR.keep {H H' : Hp} {v : V} {q : (Int × Int) × Pg} (k : ImmK H H') (h : RowR H v q) : RowR H' v q := by
  obtain ⟨t, sv, fa, e, e1, e2, e3⟩ := h
  exact ⟨t, sv, fa, e, k _ _ e1 rfl, e2.keep k, k _ _ e3 rfl⟩
theorem RowsR.keep {H H' : Hp} (k : ImmK H H') : ∀ {vs : List V} {qs : List ((Int × Int) × Pg)}, RowsR H vs qs → RowsR H' vs qs
  | [], [], _ => True.intro
  | _ :: _, _ :: _, h => ⟨h.1.keep k, RowsR.keep k h.2⟩
theorem RowsR.snoc {H : Hp} {v : V} {q : (Int × Int) × Pg} (hv : RowR H v q) : ∀ {vs : List V} {qs : List ((Int × Int) × Pg)}, RowsR H vs qs → RowsR H (vs ++ [v]) (qs ++ [q])
  | [], [], _ => ⟨hv, True.intro⟩
  | _ :: _, _ :: _, h => ⟨h.1, RowsR.snoc hv h.2⟩
theorem RowsR.length {H : Hp} : ∀ {vs : List V} {qs : List ((Int × Int) × Pg)}, RowsR H vs qs → vs.length = qs.length
  | [], [], _ => rfl
  | _ :: _, _ :: _, h => congrArg (· + 1) (RowsR.length h.2)
theorem RowsR.get {H : Hp} : ∀ {vs : List V} {qs : List ((Int × Int) × Pg)} {j : Nat} {v : V}, RowsR H vs qs → vs[j]? = some v → ∃ q, qs[j]? = some q ∧ RowR H v q
  | _ :: _, q :: _, 0, _, h, e => by
    have e' := Option.some.inj e
    subst e'
    exact ⟨q, rfl, h.1⟩
  | _ :: vs, _ :: qs, j + 1, v, h, e => RowsR.get (j := j) h.2 e
def withP (T : Tb) (l : List (Int × Int)) : List ((Int × Int) × Pg) := l.filterMap fun q => (T q.1).map fun g => (q, g)
def regL (T : Tb) : List ((Int × Int) × Pg) := withP T (regsI T)
/-- two-item lists, each at its own place -/
def PrR (H : Hp) : List Addr → List (Int × Int) → Prop
  | [], [] => True
  | p :: ps, q :: qs => H p = some (.lst [.int q.1, .int q.2]) ∧ PrR H ps qs
  | _, _ => False
theorem PrR.keep {H H' : Hp} : ∀ {ps : List Addr} {qs : List (Int × Int)}, PrR H ps qs → (∀ p ∈ ps, ∀ o, H p = some o → H' p = some o) → PrR H' ps qs
  | [], [], _, _ => True.intro
  | p :: _, _ :: _, h, k => ⟨k p List.mem_cons_self _ h.1, PrR.keep h.2 fun p' hp' => k p' (List.mem_cons_of_mem _ hp')⟩
theorem PrR.snoc {H : Hp} {p : Addr} {q : Int × Int} (hv : H p = some (.lst [.int q.1, .int q.2])) : ∀ {ps : List Addr} {qs : List (Int × Int)}, PrR H ps qs → PrR H (ps ++ [p]) (qs ++ [q])
  | [], [], _ => ⟨hv, True.intro⟩
  | _ :: _, _ :: _, h => ⟨h.1, PrR.snoc hv h.2⟩
theorem PrR.unsnoc {H : Hp} {p : Addr} : ∀ {ps : List Addr} {qs : List (Int × Int)}, PrR H (ps ++ [p]) qs → ∃ qs' q, qs = qs' ++ [q] ∧ PrR H ps qs' ∧ H p = some (.lst [.int q.1, .int q.2])
  | [], [q], h => ⟨[], q, rfl, True.intro, h.1⟩
  | [], [], h => h.elim
  | [], _ :: _ :: _, h => h.2.elim
  | a :: ps, [], h => h.elim
  | a :: ps, q :: qs, h => by
    obtain ⟨qs', q', e, h1, h2⟩ := PrR.unsnoc (ps := ps) h.2
    exact ⟨q :: qs', q', by rw [e]; rfl, ⟨h.1, h1⟩, h2⟩
theorem PrR.length {H : Hp} : ∀ {ps : List Addr} {qs : List (Int × Int)}, PrR H ps qs → ps.length = qs.length
  | [], [], _ => rfl
  | _ :: _, _ :: _, h => congrArg (· + 1) (PrR.length h.2)
theorem PrR.get {H : Hp} : ∀ {ps : List Addr} {qs : List (Int × Int)} {j : Nat} {p : Addr}, PrR H ps qs → ps[j]? = some p → ∃ q, qs[j]? = some q ∧ H p = some (.lst [.int q.1, .int q.2])
  | _ :: _, q :: _, 0, _, h, e => by
    have e' := Option.some.inj e
    subst e'
    exact ⟨q, rfl, h.1⟩
  | _ :: ps, _ :: qs, j + 1, v, h, e => PrR.get (j := j) h.2 e
end My
namespace My
open PySem L2
/-- a test that leaves the heap as it was but for new things -/
theorem tIfS_s {c : TT} {t u : TS} {D : Ends} {σ : St} {H : Hp} {b : Bool} (hc : ∀ Q' : Bool → Hp → Prop, (∀ H', Same H H' → Q' b H') → c σ H Q') (h1 : b = true → ∀ H', Same H H' → t D σ H')
    (h2 : b = false → ∀ H', Same H H' → u D σ H') : tIfS c t u D σ H :=
  hc _ fun H' s => iteB (fun e => h1 e H' s) (fun e => h2 e H' s)
theorem withP_snoc (T : Tb) (l : List (Int × Int)) (q : Int × Int) {g : Pg} (e : T q.1 = some g) : withP T (l ++ [q]) = withP T l ++ [(q, g)] := by
  unfold withP
  rw [List.filterMap_append]
  congr 1
  simp [e]
theorem withP_length (T : Tb) (l : List (Int × Int)) : (withP T l).length ≤ l.length := List.length_filterMap_le _ _
end My
namespace My
open PySem L2
def S0 : Sys := ⟨0, 0, 0, fun _ => none, fun _ => false⟩
theorem cntS_S0 (k i : Int) : cntS S0 k i = 0 := by
  rw [cntS_eq]
  exact sumN_zero.mpr fun j _ _ => rfl
end My
namespace My
open PySem L2
def childG (g : Pg) : Option Pg := if g.fl.s = true then none else some g
def childT (T : Tb) : Tb := fun n => (T n).bind childG
def forkS (S : Sys) (T : Tb) : Sys := { (newS' S T) with n := S.n + 1 }
where newS' (S : Sys) (T : Tb) : Sys := { S with p := S.p + 1, tabs := fun j => if j = S.p + 1 then some (childT T) else S.tabs j }
def endS (S : Sys) (i : Int) : Sys := { S.setTab i none with n := S.n + 1 }
def freshS (S : Sys) (i : Int) : Sys := { S.setTab i (some fun _ => none) with n := S.n + 1 }
/-- changes made of a dict's keys -/
def keyCh (F : Int → Option (Option Pg)) (ks : List Int) : List (Int × Option Pg) := ks.filterMap fun n => (F n).map fun x => (n, x)
theorem keyCh_mem {F : Int → Option (Option Pg)} {ks : List Int} {q : Int × Option Pg} (h : q ∈ keyCh F ks) : q.1 ∈ ks ∧ F q.1 = some q.2 := by
  obtain ⟨n, hn, e⟩ := List.mem_filterMap.mp h
  cases ef : F n with
  | none => rw [ef] at e; cases e
  | some x =>
    rw [ef] at e
    cases e
    exact ⟨hn, ef⟩
theorem keyCh_in {F : Int → Option (Option Pg)} {ks : List Int} {n : Int} {x : Option Pg} (h : n ∈ ks) (e : F n = some x) : (n, x) ∈ keyCh F ks := List.mem_filterMap.mpr ⟨n, h, by rw [e]; rfl⟩
theorem keyCh_nod {F : Int → Option (Option Pg)} : ∀ {ks : List Int}, ks.Nodup → ((keyCh F ks).map (·.1)).Nodup
  | [], _ => List.nodup_nil
  | n :: r, nd => by
    rw [List.nodup_cons] at nd
    have ih := keyCh_nod (F := F) nd.2
    unfold keyCh at ih ⊢
    rw [List.filterMap_cons]
    cases ef : F n with
    | none => exact ih
    | some x =>
      show (((n, x) :: List.filterMap _ r).map (·.1)).Nodup
      rw [List.map_cons, List.nodup_cons]
      refine ⟨fun hm => ?_, ih⟩
      obtain ⟨q, hq, e⟩ := List.mem_map.mp hm
      have := (keyCh_mem (F := F) hq).1
      simp only at e
      rw [e] at this
      exact nd.1 this
theorem keyCh_snoc (F : Int → Option (Option Pg)) (ks : List Int) (n : Int) : keyCh F (ks ++ [n]) = keyCh F ks ++ (match F n with | some x => [(n, x)] | none => []) := by
  unfold keyCh
  rw [List.filterMap_append]
  congr 1
  rw [List.filterMap_cons, List.filterMap_nil]
  cases F n <;> rfl
theorem keyCh_length (F : Int → Option (Option Pg)) (ks : List Int) : (keyCh F ks).length ≤ ks.length := List.length_filterMap_le _ _
theorem appT_key {F : Int → Option (Option Pg)} {ks : List Int} (nd : ks.Nodup) (P : Tb) (n : Int) : appT P (keyCh F ks) n = if n ∈ ks then (F n).getD (P n) else P n := by
  by_cases h : n ∈ ks
  · rw [if_pos h]
    cases ef : F n with
    | none =>
      rw [appT_out fun q hq e => ?_]
      · rfl
      · have := (keyCh_mem hq).2
        rw [e, ef] at this
        cases this
    | some x => exact appT_in (keyCh_nod nd) (keyCh_in h ef)
  · rw [if_neg h]
    exact appT_out fun q hq e => h (by rw [← e]; exact (keyCh_mem hq).1)
section
variable {CS CP CH : Addr} {H H' : Hp} {x : Addr} {w : Wh} {S : Sys} {τ : Tm} {cnt : Int → Int → Nat}
/-- a table is taken away -/
theorem SyA.dropTab (h : SyA CS CP CH H x w S τ cnt) {i : Int} {kvs : List (Key × V)} (e : H w.t = some (.dK kvs)) : SyA CS CP CH (upd H w.t (.dK (dropK kvs (Sum.inl i)))) x w (S.setTab i none) τ cnt := by
  have im : ImmK H (upd H w.t (.dK (dropK kvs (Sum.inl i)))) := ImmK.upd e rfl
  have at_ : ∀ {b : Addr} {g : Tag}, τ b = some g → g ≠ .tabs → (upd H w.t (.dK (dropK kvs (Sum.inl i)))) b = H b := fun t n => upd_ne (ne_tag t h.tt n)
  refine ⟨(at_ h.tx (by simp)).trans h.hx, h.tx, h.tt, h.to, h.tg, h.tf, ?_, ?_, (at_ h.tg (by simp)).trans h.ogs, ?_, h.bp, h.bo, fun b g e' => ?_, h.his.keep (fun b g t c o e => by rw [at_ t (by rcases c with c | c | c <;> rw [c] <;> simp)]; exact e) (fun b g t => t)⟩
  · obtain ⟨kv, f, h1, h2, h3⟩ := h.tabs
    rw [e] at h1
    cases h1
    refine ⟨_, _, upd_same, h2.drop i, fun j => ?_⟩
    by_cases ej : j = i
    · subst ej
      simp only [if_pos]
      show TbO CP _ τ S.p j none (if j = j then none else S.tabs j)
      rw [if_pos rfl]
      exact True.intro
    · simp only [if_neg ej]
      show TbO CP _ τ S.p j (f j) (if j = i then none else S.tabs j)
      rw [if_neg ej]
      exact (h3 j).keep im (fun d td _ => ⟨at_ td (by simp), rfl⟩) (Int.le_refl _)
  · obtain ⟨kvs, f, h1, h2, h3⟩ := h.obs
    exact ⟨kvs, f, (at_ h.to (by simp)).trans h1, h2, fun i => (h3 i).keep (fun d td _ => ⟨at_ td (by simp), rfl⟩) (Int.le_refl _)⟩
  · obtain ⟨kvs, h1, h2⟩ := h.fis
    exact ⟨kvs, (at_ h.tf (by simp)).trans h1, h2⟩
  · rcases h.own b g e' with z | ⟨o, z1, z2⟩
    · exact .inl z
    · by_cases bx : b = w.t
      · rw [bx]; exact .inr ⟨_, upd_same, rfl⟩
      · exact .inr ⟨o, by rw [upd_ne bx]; exact z1, z2⟩
end
theorem cntS_drop {S : Sys} {i : Int} (h0 : 0 ≤ i) (h1 : i ≤ 1000) (e : S.tabs i = some fun _ => none) (k m : Int) : cntS (S.setTab i none) k m = cntS S k m := by
  have a := cntS_set (S := S) (a := none) h0 h1 k m
  rw [e] at a
  have b : cO k m (some fun _ => none) = 0 := cntT_none k m
  rw [b] at a
  simp only [cO] at a
  omega
/-- two systems with the same tables behind them -/
theorem SyA.tabsEq {CS CP CH : Addr} {H : Hp} {x : Addr} {w : Wh} {S S' : Sys} {τ : Tm} (h : SyR CS CP CH H x w S τ) (e : S = S') : SyR CS CP CH H x w S' τ := by rw [← e]; exact h
/-- the list of the locked items is a new one -/
theorem SyA.putHis {CS CP CH : Addr} {H : Hp} {x : Addr} {w : Wh} {S : Sys} {τ : Tm} {cnt : Int → Int → Nat} (h : SyA CS CP CH H x w S τ cnt) {dh dh' lk lk' : Addr} {y y' : Nat → V} (e : H w.hi = some (.ins CH dh (hisF w.ro lk y))) (hl : H lk' = some (.lst [])) (tl : τ lk' = none) :
    SyA CS CP CH (upd H w.hi (.ins CH dh' (hisF w.ro lk' y'))) x w S (setTag τ lk' .lks) cnt := by
  have th := h.his.th
  have tr := h.his.tr
  have ne : ∀ {b : Addr} {g : Tag}, τ b = some g → b ≠ lk' := fun t z => by rw [z, tl] at t; cases t
  have tg : ∀ {b : Addr} {g : Tag}, τ b = some g → setTag τ lk' .lks b = some g := fun t => by rw [setTag_ne (ne t)]; exact t
  have at_ : ∀ {b : Addr} {g : Tag}, τ b = some g → g ≠ .his → (upd H w.hi (.ins CH dh' (hisF w.ro lk' y'))) b = H b := fun t n => upd_ne (ne_tag t th n)
  have im : ImmK H (upd H w.hi (.ins CH dh' (hisF w.ro lk' y'))) := ImmK.upd e rfl
  have hlk : (upd H w.hi (.ins CH dh' (hisF w.ro lk' y'))) lk' = some (.lst []) := by rw [upd_ne (ne th).symm]; exact hl
  refine ⟨(at_ h.tx (by simp)).trans h.hx, tg h.tx, tg h.tt, tg h.to, tg h.tg, tg h.tf, ?_, ?_, (at_ h.tg (by simp)).trans h.ogs, ?_, h.bp, h.bo, fun b g e' => ?_, ⟨⟨dh', lk', y', upd_same, hlk, setTag_same⟩, (at_ tr (by simp)).trans h.his.ro, tg th, tg tr⟩⟩
  · obtain ⟨kvs, f, h1, h2, h3⟩ := h.tabs
    exact ⟨kvs, f, (at_ h.tt (by simp)).trans h1, h2, fun j => (h3 j).keep im (fun d td _ => ⟨at_ td (by simp), (tg td).trans td.symm⟩) (Int.le_refl _)⟩
  · obtain ⟨kvs, f, h1, h2, h3⟩ := h.obs
    exact ⟨kvs, f, (at_ h.to (by simp)).trans h1, h2, fun j => (h3 j).keep (fun d td _ => ⟨at_ td (by simp), (tg td).trans td.symm⟩) (Int.le_refl _)⟩
  · obtain ⟨kvs, h1, h2⟩ := h.fis
    exact ⟨kvs, (at_ h.tf (by simp)).trans h1, h2⟩
  · by_cases bl : b = lk'
    · exact .inr ⟨_, by rw [bl]; exact hlk, rfl⟩
    · rw [setTag_ne bl] at e'
      rcases h.own b g e' with z | ⟨o, z1, z2⟩
      · exact .inl z
      · by_cases bx : b = w.hi
        · rw [bx]; exact .inr ⟨_, upd_same, rfl⟩
        · exact .inr ⟨o, by rw [upd_ne bx]; exact z1, z2⟩
theorem SyA.goHis {CS CP CH : Addr} {H H1 : Hp} {x : Addr} {w : Wh} {S : Sys} {τ : Tm} {cnt : Int → Int → Nat} (h : SyA CS CP CH H x w S τ cnt) {dh dh' lk lk' : Addr} {y y' : Nat → V} (s1 : Same H H1) (e : H w.hi = some (.ins CH dh (hisF w.ro lk y))) (h0 : H lk' = none) (hl : H1 lk' = some (.lst [])) :
    Go τ H (setTag τ lk' .lks) (upd H1 w.hi (.ins CH dh' (hisF w.ro lk' y'))) := by
  have th := h.his.th
  refine ⟨fun b o n eb => ?_, fun b => ?_, fun b xs eb => ?_⟩
  · rw [upd_ne (fun z => by rw [z, th] at n; cases n)]
    exact s1 _ _ eb
  · by_cases z : b = lk'
    · rw [z]; exact .inr ⟨h.fresh h0, h0⟩
    · exact .inl (setTag_ne z)
  · rw [upd_ne (fun z => by rw [z, e] at eb; cases eb)]
    exact s1 _ _ eb
end My
set_option Elab.async false
set_option linter.all false
set_option maxRecDepth 100000
set_option maxHeartbeats 4000000
namespace My
open PySem L2
local macro_rules | `(tactic| walk_at "ds") => `(tactic| dsimp only [tSeq, tIfS, tTest, tB, tAnd, tOr, tNot, tAndV, tOrV, tNotV, tIf, tIsN, tNotN, tOp, tUn, tChain, rI, rI0, rU, tC, tCB, tCons, tNil, tAsg, gName, gSub, tRet, tRetN, tNext, tDrop, tLst, tTup, rIxL, rIxT, rSetL, tVar, tFld, tCall, tDGet, tDIn, tDNotIn, tNever, L2.start, List.map, List.replicate, List.length, List.append, List.cons_append, List.nil_append, List.set, Nat.sub])
local macro_rules | `(tactic| walk_at "hp") => `(tactic| first | assumption | exact upd_same | (refine Eq.trans (upd_ne (by first | assumption | (apply Ne.symm; assumption))) ?_; walk_at "hp"))
local macro_rules | `(tactic| walk_at "sd") => `(tactic| first
  | (show (_ : Int) ≠ 0; omega)
  | (refine (show CDivN _ _ from ⟨?_, ?_⟩) <;> omega)
  | (show CPow _ _; refine ⟨by omega, by omega, by omega⟩)
  | (show CMul _ _; exact Or.inl ⟨by omega, by omega⟩)
  | (show CMul _ _; exact Or.inr ⟨by omega, by omega⟩))
local macro_rules | `(tactic| walk_at "st") => `(tactic| first
  | refine ⟨_, rfl, ?_⟩
  | refine ⟨_, _, rfl, rfl, (by walk_at "sd"), ?_⟩
  | refine ⟨_, _, rfl, rfl, ?_⟩
  | refine ⟨_, _, _, _, rfl, rfl, SqL.of (by walk_at "hp"), rfl, ?_⟩
  | refine ⟨_, _, _, _, rfl, rfl, (by walk_at "hp"), rfl, ?_⟩
  | refine .inl ⟨_, rfl, ?_⟩
  | refine ⟨_, _, _, _, _, rfl, (by walk_at "hp"), (by assumption), (by assumption), rfl, ?_⟩
  | refine ⟨_, _, rfl, .inl (SqL.of (by walk_at "hp")), ?_⟩)
local macro_rules | `(tactic| walk_at "go") => `(tactic| repeat (first | walk_at "st" | (walk_at "ds"; walk_at "st")))
local macro_rules | `(tactic| walk_at "ni") => `(tactic| dsimp (config := { proj := false }) only [tNil, List.cons_append, List.nil_append])
def top (i : Nat) : Stmt := PySem.Challenge.pw_pageclass_k04_regions_walked.main.body.getD i (.Pass ⟨0, 0, 0, 0⟩)
abbrev s_NoProcess_init : Stmt := inClass (top 4) 0
abbrev n_NoProcess_init : List Str := ["self", "process"]
abbrev p_NoProcess_init : List Str := ["self", "process"]
theorem sc_NoProcess_init : FnScope n_NoProcess_init p_NoProcess_init (defScope s_NoProcess_init) := ⟨rfl, rfl, rfl, by decide +kernel, rfl, by decide +kernel, by decide +kernel⟩
abbrev s_NoPages_init : Stmt := inClass (top 5) 0
abbrev n_NoPages_init : List Str := ["self", "part"]
abbrev p_NoPages_init : List Str := ["self", "part"]
theorem sc_NoPages_init : FnScope n_NoPages_init p_NoPages_init (defScope s_NoPages_init) := ⟨rfl, rfl, rfl, by decide +kernel, rfl, by decide +kernel, by decide +kernel⟩
abbrev s_NotMapped_init : Stmt := inClass (top 6) 0
abbrev n_NotMapped_init : List Str := ["self", "page"]
abbrev p_NotMapped_init : List Str := ["self", "page"]
theorem sc_NotMapped_init : FnScope n_NotMapped_init p_NotMapped_init (defScope s_NotMapped_init) := ⟨rfl, rfl, rfl, by decide +kernel, rfl, by decide +kernel, by decide +kernel⟩
abbrev s_NoFile_init : Stmt := inClass (top 7) 0
abbrev n_NoFile_init : List Str := ["self", "name"]
abbrev p_NoFile_init : List Str := ["self", "name"]
theorem sc_NoFile_init : FnScope n_NoFile_init p_NoFile_init (defScope s_NoFile_init) := ⟨rfl, rfl, rfl, by decide +kernel, rfl, by decide +kernel, by decide +kernel⟩
abbrev s_Taken_init : Stmt := inClass (top 8) 0
abbrev n_Taken_init : List Str := ["self", "name"]
abbrev p_Taken_init : List Str := ["self", "name"]
theorem sc_Taken_init : FnScope n_Taken_init p_Taken_init (defScope s_Taken_init) := ⟨rfl, rfl, rfl, by decide +kernel, rfl, by decide +kernel, by decide +kernel⟩
abbrev s_NoLock_init : Stmt := inClass (top 9) 0
abbrev n_NoLock_init : List Str := ["self", "page"]
abbrev p_NoLock_init : List Str := ["self", "page"]
theorem sc_NoLock_init : FnScope n_NoLock_init p_NoLock_init (defScope s_NoLock_init) := ⟨rfl, rfl, rfl, by decide +kernel, rfl, by decide +kernel, by decide +kernel⟩
abbrev s_Item_init : Stmt := inClass (top 17) 0
abbrev n_Item_init : List Str := ["self", "source", "index", "content"]
abbrev p_Item_init : List Str := ["self", "source", "index", "content"]
theorem sc_Item_init : FnScope n_Item_init p_Item_init (defScope s_Item_init) := ⟨rfl, rfl, rfl, by decide +kernel, rfl, by decide +kernel, by decide +kernel⟩
abbrev s_Page_init : Stmt := inClass (top 18) 0
abbrev n_Page_init : List Str := ["self", "rights", "shared", "source", "index", "flags", "held", "stamp"]
abbrev p_Page_init : List Str := ["self", "rights", "shared", "source", "index", "flags", "held", "stamp"]
theorem sc_Page_init : FnScope n_Page_init p_Page_init (defScope s_Page_init) := ⟨rfl, rfl, rfl, by decide +kernel, rfl, by decide +kernel, by decide +kernel⟩
abbrev s_History_init : Stmt := inClass (top 29) 0
abbrev n_History_init : List Str := ["self"]
abbrev p_History_init : List Str := ["self"]
theorem sc_History_init : FnScope n_History_init p_History_init (defScope s_History_init) := ⟨rfl, rfl, rfl, by decide +kernel, rfl, by decide +kernel, by decide +kernel⟩
abbrev s_System_init : Stmt := inClass (top 76) 0
abbrev n_System_init : List Str := ["self", "frames", "slots", "strict"]
abbrev p_System_init : List Str := ["self", "frames", "slots", "strict"]
theorem sc_System_init : FnScope n_System_init p_System_init (defScope s_System_init) := ⟨rfl, rfl, rfl, by decide +kernel, rfl, by decide +kernel, by decide +kernel⟩
abbrev s_with_rights : Stmt := top 19
abbrev n_with_rights : List Str := ["page", "rights"]
abbrev p_with_rights : List Str := ["page", "rights"]
theorem sc_with_rights : FnScope n_with_rights p_with_rights (defScope s_with_rights) := ⟨rfl, rfl, rfl, by decide +kernel, rfl, by decide +kernel, by decide +kernel⟩
abbrev s_with_flags : Stmt := top 20
abbrev n_with_flags : List Str := ["page", "flags"]
abbrev p_with_flags : List Str := ["page", "flags"]
theorem sc_with_flags : FnScope n_with_flags p_with_flags (defScope s_with_flags) := ⟨rfl, rfl, rfl, by decide +kernel, rfl, by decide +kernel, by decide +kernel⟩
abbrev s_with_lock : Stmt := top 21
abbrev n_with_lock : List Str := ["page", "locked", "words", "name"]
abbrev p_with_lock : List Str := ["page", "locked"]
theorem sc_with_lock : FnScope n_with_lock p_with_lock (defScope s_with_lock) := ⟨rfl, rfl, rfl, by decide +kernel, rfl, by decide +kernel, by decide +kernel⟩
abbrev s_with_held : Stmt := top 22
abbrev n_with_held : List Str := ["page", "held"]
abbrev p_with_held : List Str := ["page", "held"]
theorem sc_with_held : FnScope n_with_held p_with_held (defScope s_with_held) := ⟨rfl, rfl, rfl, by decide +kernel, rfl, by decide +kernel, by decide +kernel⟩
abbrev s_with_stamp : Stmt := top 23
abbrev n_with_stamp : List Str := ["page", "stamp"]
abbrev p_with_stamp : List Str := ["page", "stamp"]
theorem sc_with_stamp : FnScope n_with_stamp p_with_stamp (defScope s_with_stamp) := ⟨rfl, rfl, rfl, by decide +kernel, rfl, by decide +kernel, by decide +kernel⟩
abbrev s_attributes : Stmt := top 24
abbrev n_attributes : List Str := ["page"]
abbrev p_attributes : List Str := ["page"]
theorem sc_attributes : FnScope n_attributes p_attributes (defScope s_attributes) := ⟨rfl, rfl, rfl, by decide +kernel, rfl, by decide +kernel, by decide +kernel⟩
abbrev s_has_object : Stmt := top 26
abbrev n_has_object : List Str := ["page"]
abbrev p_has_object : List Str := ["page"]
theorem sc_has_object : FnScope n_has_object p_has_object (defScope s_has_object) := ⟨rfl, rfl, rfl, by decide +kernel, rfl, by decide +kernel, by decide +kernel⟩
abbrev s_arrange_locked : Stmt := top 31
abbrev n_arrange_locked : List Str := ["history", "first", "stay", "item"]
abbrev p_arrange_locked : List Str := ["history"]
theorem sc_arrange_locked : FnScope n_arrange_locked p_arrange_locked (defScope s_arrange_locked) := ⟨rfl, rfl, rfl, by decide +kernel, rfl, by decide +kernel, by decide +kernel⟩
abbrev s_add_locked : Stmt := top 32
abbrev n_add_locked : List Str := ["history", "first", "end"]
abbrev p_add_locked : List Str := ["history", "first"]
theorem sc_add_locked : FnScope n_add_locked p_add_locked (defScope s_add_locked) := ⟨rfl, rfl, rfl, by decide +kernel, rfl, by decide +kernel, by decide +kernel⟩
abbrev s_this_step : Stmt := top 35
abbrev n_this_step : List Str := ["system"]
abbrev p_this_step : List Str := ["system"]
theorem sc_this_step : FnScope n_this_step p_this_step (defScope s_this_step) := ⟨rfl, rfl, rfl, by decide +kernel, rfl, by decide +kernel, by decide +kernel⟩
abbrev s_count_page : Stmt := top 39
abbrev n_count_page : List Str := ["system", "page", "held", "users"]
abbrev p_count_page : List Str := ["system", "page"]
theorem sc_count_page : FnScope n_count_page p_count_page (defScope s_count_page) := ⟨rfl, rfl, rfl, by decide +kernel, rfl, by decide +kernel, by decide +kernel⟩
abbrev s_discount_page : Stmt := top 41
abbrev n_discount_page : List Str := ["system", "page", "held"]
abbrev p_discount_page : List Str := ["system", "page"]
theorem sc_discount_page : FnScope n_discount_page p_discount_page (defScope s_discount_page) := ⟨rfl, rfl, rfl, by decide +kernel, rfl, by decide +kernel, by decide +kernel⟩
abbrev s_discount_user : Stmt := top 42
abbrev n_discount_user : List Str := ["system", "number", "index", "users"]
abbrev p_discount_user : List Str := ["system", "number", "index"]
theorem sc_discount_user : FnScope n_discount_user p_discount_user (defScope s_discount_user) := ⟨rfl, rfl, rfl, by decide +kernel, rfl, by decide +kernel, by decide +kernel⟩
abbrev s_replace_pages : Stmt := top 43
abbrev n_replace_pages : List Str := ["system", "process", "changes", "table", "replaced", "number", "page"]
abbrev p_replace_pages : List Str := ["system", "process", "changes"]
theorem sc_replace_pages : FnScope n_replace_pages p_replace_pages (defScope s_replace_pages) := ⟨rfl, rfl, rfl, by decide +kernel, rfl, by decide +kernel, by decide +kernel⟩
abbrev s_end_step : Stmt := top 44
abbrev n_end_step : List Str := ["system"]
abbrev p_end_step : List Str := ["system"]
theorem sc_end_step : FnScope n_end_step p_end_step (defScope s_end_step) := ⟨rfl, rfl, rfl, by decide +kernel, rfl, by decide +kernel, by decide +kernel⟩
abbrev s_is_integer : Stmt := top 46
abbrev n_is_integer : List Str := ["value", "low", "high"]
abbrev p_is_integer : List Str := ["value", "low", "high"]
theorem sc_is_integer : FnScope n_is_integer p_is_integer (defScope s_is_integer) := ⟨rfl, rfl, rfl, by decide +kernel, rfl, by decide +kernel, by decide +kernel⟩
abbrev s_is_word : Stmt := top 47
abbrev n_is_word : List Str := ["value", "words"]
abbrev p_is_word : List Str := ["value", "words"]
theorem sc_is_word : FnScope n_is_word p_is_word (defScope s_is_word) := ⟨rfl, rfl, rfl, by decide +kernel, rfl, by decide +kernel, by decide +kernel⟩
abbrev s_require : Stmt := top 48
abbrev n_require : List Str := ["valid", "part"]
abbrev p_require : List Str := ["valid", "part"]
theorem sc_require : FnScope n_require p_require (defScope s_require) := ⟨rfl, rfl, rfl, by decide +kernel, rfl, by decide +kernel, by decide +kernel⟩
abbrev s_table_of : Stmt := top 49
abbrev n_table_of : List Str := ["system", "process"]
abbrev p_table_of : List Str := ["system", "process"]
theorem sc_table_of : FnScope n_table_of p_table_of (defScope s_table_of) := ⟨rfl, rfl, rfl, by decide +kernel, rfl, by decide +kernel, by decide +kernel⟩
abbrev s_numbers_of : Stmt := top 50
abbrev n_numbers_of : List Str := ["first", "count"]
abbrev p_numbers_of : List Str := ["first", "count"]
theorem sc_numbers_of : FnScope n_numbers_of p_numbers_of (defScope s_numbers_of) := ⟨rfl, rfl, rfl, by decide +kernel, rfl, by decide +kernel, by decide +kernel⟩
abbrev s_require_mapped : Stmt := top 51
abbrev n_require_mapped : List Str := ["table", "numbers", "number"]
abbrev p_require_mapped : List Str := ["table", "numbers"]
theorem sc_require_mapped : FnScope n_require_mapped p_require_mapped (defScope s_require_mapped) := ⟨rfl, rfl, rfl, by decide +kernel, rfl, by decide +kernel, by decide +kernel⟩
abbrev s_require_unlocked : Stmt := top 52
abbrev n_require_unlocked : List Str := ["table", "numbers", "number"]
abbrev p_require_unlocked : List Str := ["table", "numbers"]
theorem sc_require_unlocked : FnScope n_require_unlocked p_require_unlocked (defScope s_require_unlocked) := ⟨rfl, rfl, rfl, by decide +kernel, rfl, by decide +kernel, by decide +kernel⟩
abbrev s_file_of : Stmt := top 53
abbrev n_file_of : List Str := ["system", "name"]
abbrev p_file_of : List Str := ["system", "name"]
theorem sc_file_of : FnScope n_file_of p_file_of (defScope s_file_of) := ⟨rfl, rfl, rfl, by decide +kernel, rfl, by decide +kernel, by decide +kernel⟩
abbrev s_require_charge : Stmt := top 60
abbrev n_require_charge : List Str := ["system", "tables", "written"]
abbrev p_require_charge : List Str := ["system", "tables", "written"]
theorem sc_require_charge : FnScope n_require_charge p_require_charge (defScope s_require_charge) := ⟨rfl, rfl, rfl, by decide +kernel, rfl, by decide +kernel, by decide +kernel⟩
abbrev s_require_source : Stmt := top 62
abbrev n_require_source : List Str := ["system", "source", "shared", "kind", "named"]
abbrev p_require_source : List Str := ["system", "source", "shared"]
theorem sc_require_source : FnScope n_require_source p_require_source (defScope s_require_source) := ⟨rfl, rfl, rfl, by decide +kernel, rfl, by decide +kernel, by decide +kernel⟩
abbrev s_place_for : Stmt := top 63
abbrev n_place_for : List Str := ["table", "count", "at", "first"]
abbrev p_place_for : List Str := ["table", "count", "at"]
theorem sc_place_for : FnScope n_place_for p_place_for (defScope s_place_for) := ⟨rfl, rfl, rfl, by decide +kernel, rfl, by decide +kernel, by decide +kernel⟩
abbrev s_map_pages : Stmt := top 64
abbrev n_map_pages : List Str := ["system", "process", "count", "rights", "shared", "source", "index", "at", "table", "first", "makes_object", "shows", "pages"]
abbrev p_map_pages : List Str := ["system", "process", "count", "rights", "shared", "source", "index", "at"]
theorem sc_map_pages : FnScope n_map_pages p_map_pages (defScope s_map_pages) := ⟨rfl, rfl, rfl, by decide +kernel, rfl, by decide +kernel, by decide +kernel⟩
abbrev s_new_pages : Stmt := top 65
abbrev n_new_pages : List Str := ["first", "count", "page", "pages", "k", "index"]
abbrev p_new_pages : List Str := ["first", "count", "page"]
theorem sc_new_pages : FnScope n_new_pages p_new_pages (defScope s_new_pages) := ⟨rfl, rfl, rfl, by decide +kernel, rfl, by decide +kernel, by decide +kernel⟩
abbrev s_unmap : Stmt := top 66
abbrev n_unmap : List Str := ["system", "process", "first", "count", "table", "numbers", "number"]
abbrev p_unmap : List Str := ["system", "process", "first", "count"]
theorem sc_unmap : FnScope n_unmap p_unmap (defScope s_unmap) := ⟨rfl, rfl, rfl, by decide +kernel, rfl, by decide +kernel, by decide +kernel⟩
abbrev s_protect : Stmt := top 67
abbrev n_protect : List Str := ["system", "process", "first", "count", "rights", "table", "numbers", "pages", "number"]
abbrev p_protect : List Str := ["system", "process", "first", "count", "rights"]
theorem sc_protect : FnScope n_protect p_protect (defScope s_protect) := ⟨rfl, rfl, rfl, by decide +kernel, rfl, by decide +kernel, by decide +kernel⟩
abbrev s_flags_with : Stmt := top 68
abbrev n_flags_with : List Str := ["flags", "wanted", "chosen", "name", "choice"]
abbrev p_flags_with : List Str := ["flags", "wanted"]
theorem sc_flags_with : FnScope n_flags_with p_flags_with (defScope s_flags_with) := ⟨rfl, rfl, rfl, by decide +kernel, rfl, by decide +kernel, by decide +kernel⟩
abbrev s_flag : Stmt := top 69
abbrev n_flag : List Str := ["system", "process", "first", "count", "merge", "stay", "wipe", "table", "numbers", "wanted", "name", "choice", "pages", "number"]
abbrev p_flag : List Str := ["system", "process", "first", "count", "merge", "stay", "wipe"]
theorem sc_flag : FnScope n_flag p_flag (defScope s_flag) := ⟨rfl, rfl, rfl, by decide +kernel, rfl, by decide +kernel, by decide +kernel⟩
abbrev s_move : Stmt := top 70
abbrev n_move : List Str := ["system", "process", "first", "count", "to", "table", "numbers", "changes", "number"]
abbrev p_move : List Str := ["system", "process", "first", "count", "to"]
theorem sc_move : FnScope n_move p_move (defScope s_move) := ⟨rfl, rfl, rfl, by decide +kernel, rfl, by decide +kernel, by decide +kernel⟩
abbrev s_continues : Stmt := top 71
abbrev n_continues : List Str := ["last", "page", "index"]
abbrev p_continues : List Str := ["last", "page"]
theorem sc_continues : FnScope n_continues p_continues (defScope s_continues) := ⟨rfl, rfl, rfl, by decide +kernel, rfl, by decide +kernel, by decide +kernel⟩
abbrev s_regions : Stmt := top 72
abbrev n_regions : List Str := ["system", "process", "table", "runs", "number", "first", "count"]
abbrev p_regions : List Str := ["system", "process"]
theorem sc_regions : FnScope n_regions p_regions (defScope s_regions) := ⟨rfl, rfl, rfl, by decide +kernel, rfl, by decide +kernel, by decide +kernel⟩
abbrev s_free_runs : Stmt := top 73
abbrev n_free_runs : List Str := ["table", "runs", "run", "number"]
abbrev p_free_runs : List Str := ["table"]
theorem sc_free_runs : FnScope n_free_runs p_free_runs (defScope s_free_runs) := ⟨rfl, rfl, rfl, by decide +kernel, rfl, by decide +kernel, by decide +kernel⟩
abbrev s_lowest_gap : Stmt := top 74
abbrev n_lowest_gap : List Str := ["table", "count", "number", "run"]
abbrev p_lowest_gap : List Str := ["table", "count"]
theorem sc_lowest_gap : FnScope n_lowest_gap p_lowest_gap (defScope s_lowest_gap) := ⟨rfl, rfl, rfl, by decide +kernel, rfl, by decide +kernel, by decide +kernel⟩
abbrev s_new_process : Stmt := top 77
abbrev n_new_process : List Str := ["system"]
abbrev p_new_process : List Str := ["system"]
theorem sc_new_process : FnScope n_new_process p_new_process (defScope s_new_process) := ⟨rfl, rfl, rfl, by decide +kernel, rfl, by decide +kernel, by decide +kernel⟩
abbrev s_unmap_all : Stmt := top 78
abbrev n_unmap_all : List Str := ["system", "process", "number"]
abbrev p_unmap_all : List Str := ["system", "process"]
theorem sc_unmap_all : FnScope n_unmap_all p_unmap_all (defScope s_unmap_all) := ⟨rfl, rfl, rfl, by decide +kernel, rfl, by decide +kernel, by decide +kernel⟩
abbrev s_end_process : Stmt := top 79
abbrev n_end_process : List Str := ["system", "process"]
abbrev p_end_process : List Str := ["system", "process"]
theorem sc_end_process : FnScope n_end_process p_end_process (defScope s_end_process) := ⟨rfl, rfl, rfl, by decide +kernel, rfl, by decide +kernel, by decide +kernel⟩
abbrev s_spawn : Stmt := top 80
abbrev n_spawn : List Str := ["system", "process"]
abbrev p_spawn : List Str := ["system"]
theorem sc_spawn : FnScope n_spawn p_spawn (defScope s_spawn) := ⟨rfl, rfl, rfl, by decide +kernel, rfl, by decide +kernel, by decide +kernel⟩
abbrev s_child_page : Stmt := top 81
abbrev n_child_page : List Str := ["page", "step", "child"]
abbrev p_child_page : List Str := ["page", "step"]
theorem sc_child_page : FnScope n_child_page p_child_page (defScope s_child_page) := ⟨rfl, rfl, rfl, by decide +kernel, rfl, by decide +kernel, by decide +kernel⟩
abbrev s_pages_of_child : Stmt := top 82
abbrev n_pages_of_child : List Str := ["system", "table", "step", "number", "page"]
abbrev p_pages_of_child : List Str := ["system", "table"]
theorem sc_pages_of_child : FnScope n_pages_of_child p_pages_of_child (defScope s_pages_of_child) := ⟨rfl, rfl, rfl, by decide +kernel, rfl, by decide +kernel, by decide +kernel⟩
abbrev s_fork : Stmt := top 83
abbrev n_fork : List Str := ["system", "process", "pages", "child"]
abbrev p_fork : List Str := ["system", "process"]
theorem sc_fork : FnScope n_fork p_fork (defScope s_fork) := ⟨rfl, rfl, rfl, by decide +kernel, rfl, by decide +kernel, by decide +kernel⟩
abbrev s_leave : Stmt := top 84
abbrev n_leave : List Str := ["system", "process"]
abbrev p_leave : List Str := ["system", "process"]
theorem sc_leave : FnScope n_leave p_leave (defScope s_leave) := ⟨rfl, rfl, rfl, by decide +kernel, rfl, by decide +kernel, by decide +kernel⟩
abbrev s_fresh : Stmt := top 85
abbrev n_fresh : List Str := ["system", "process"]
abbrev p_fresh : List Str := ["system", "process"]
theorem sc_fresh : FnScope n_fresh p_fresh (defScope s_fresh) := ⟨rfl, rfl, rfl, by decide +kernel, rfl, by decide +kernel, by decide +kernel⟩
abbrev s_processes : Stmt := top 86
abbrev n_processes : List Str := ["system"]
abbrev p_processes : List Str := ["system"]
theorem sc_processes : FnScope n_processes p_processes (defScope s_processes) := ⟨rfl, rfl, rfl, by decide +kernel, rfl, by decide +kernel, by decide +kernel⟩
abbrev s_is_name : Stmt := top 88
abbrev n_is_name : List Str := ["value", "letter"]
abbrev p_is_name : List Str := ["value"]
theorem sc_is_name : FnScope n_is_name p_is_name (defScope s_is_name) := ⟨rfl, rfl, rfl, by decide +kernel, rfl, by decide +kernel, by decide +kernel⟩
abbrev s_new_pages_of_file : Stmt := top 89
abbrev n_new_pages_of_file : List Str := ["name", "first", "end", "index"]
abbrev p_new_pages_of_file : List Str := ["name", "first", "end"]
theorem sc_new_pages_of_file : FnScope n_new_pages_of_file p_new_pages_of_file (defScope s_new_pages_of_file) := ⟨rfl, rfl, rfl, by decide +kernel, rfl, by decide +kernel, by decide +kernel⟩
abbrev s_create : Stmt := top 90
abbrev n_create : List Str := ["system", "name", "count"]
abbrev p_create : List Str := ["system", "name", "count"]
theorem sc_create : FnScope n_create p_create (defScope s_create) := ⟨rfl, rfl, rfl, by decide +kernel, rfl, by decide +kernel, by decide +kernel⟩
abbrev s__law_well : Stmt := top 93
abbrev n__law_well : List Str := ["cell"]
abbrev p__law_well : List Str := ["cell"]
theorem sc__law_well : FnScope n__law_well p__law_well (defScope s__law_well) := ⟨rfl, rfl, rfl, by decide +kernel, rfl, by decide +kernel, by decide +kernel⟩
abbrev s__law_draw : Stmt := top 94
abbrev n__law_draw : List Str := ["well", "many", "digit", "prime", "number"]
abbrev p__law_draw : List Str := ["well", "many"]
theorem sc__law_draw : FnScope n__law_draw p__law_draw (defScope s__law_draw) := ⟨rfl, rfl, rfl, by decide +kernel, rfl, by decide +kernel, by decide +kernel⟩
abbrev s__law_one : Stmt := top 95
abbrev n__law_one : List Str := ["well", "some"]
abbrev p__law_one : List Str := ["well", "some"]
theorem sc__law_one : FnScope n__law_one p__law_one (defScope s__law_one) := ⟨rfl, rfl, rfl, by decide +kernel, rfl, by decide +kernel, by decide +kernel⟩
abbrev s__law_fits : Stmt := top 96
abbrev n__law_fits : List Str := ["space", "many", "free", "page"]
abbrev p__law_fits : List Str := ["space", "many"]
theorem sc__law_fits : FnScope n__law_fits p__law_fits (defScope s__law_fits) := ⟨rfl, rfl, rfl, by decide +kernel, rfl, by decide +kernel, by decide +kernel⟩
abbrev s__law_regions : Stmt := top 97
abbrev n__law_regions : List Str := ["space", "found", "page", "row", "begin", "long", "last", "goes_on", "told", "low"]
abbrev p__law_regions : List Str := ["space"]
theorem sc__law_regions : FnScope n__law_regions p__law_regions (defScope s__law_regions) := ⟨rfl, rfl, rfl, by decide +kernel, rfl, by decide +kernel, by decide +kernel⟩
abbrev s__law_alive : Stmt := top 98
abbrev n__law_alive : List Str := ["spaces", "number", "space", "row"]
abbrev p__law_alive : List Str := ["spaces", "number"]
theorem sc__law_alive : FnScope n__law_alive p__law_alive (defScope s__law_alive) := ⟨rfl, rfl, rfl, by decide +kernel, rfl, by decide +kernel, by decide +kernel⟩
abbrev s__law_mapped : Stmt := top 99
abbrev n__law_mapped : List Str := ["well", "system", "spaces", "state", "process", "space", "many", "letters", "is_shared", "known", "k", "whence", "low", "spot", "due", "told"]
abbrev p__law_mapped : List Str := ["well", "system", "spaces", "state"]
theorem sc__law_mapped : FnScope n__law_mapped p__law_mapped (defScope s__law_mapped) := ⟨rfl, rfl, rfl, by decide +kernel, rfl, by decide +kernel, by decide +kernel⟩
abbrev s__law_range : Stmt := top 100
abbrev n__law_range : List Str := ["well", "space", "begin"]
abbrev p__law_range : List Str := ["well", "space"]
theorem sc__law_range : FnScope n__law_range p__law_range (defScope s__law_range) := ⟨rfl, rfl, rfl, by decide +kernel, rfl, by decide +kernel, by decide +kernel⟩
abbrev s__law_changed : Stmt := top 101
abbrev n__law_changed : List Str := ["well", "system", "spaces", "process", "space", "begin", "many", "page", "way", "letters", "name", "is_set", "to", "k", "row", "flags", "one"]
abbrev p__law_changed : List Str := ["well", "system", "spaces", "process"]
theorem sc__law_changed : FnScope n__law_changed p__law_changed (defScope s__law_changed) := ⟨rfl, rfl, rfl, by decide +kernel, rfl, by decide +kernel, by decide +kernel⟩
abbrev s__law_ended : Stmt := top 102
abbrev n__law_ended : List Str := ["well", "system", "spaces", "process", "way", "begin", "many", "page"]
abbrev p__law_ended : List Str := ["well", "system", "spaces", "process"]
theorem sc__law_ended : FnScope n__law_ended p__law_ended (defScope s__law_ended) := ⟨rfl, rfl, rfl, by decide +kernel, rfl, by decide +kernel, by decide +kernel⟩
abbrev s__law_step : Stmt := top 103
abbrev n__law_step : List Str := ["well", "system", "spaces", "state", "way", "process", "child", "page"]
abbrev p__law_step : List Str := ["well", "system", "spaces", "state"]
theorem sc__law_step : FnScope n__law_step p__law_step (defScope s__law_step) := ⟨rfl, rfl, rfl, by decide +kernel, rfl, by decide +kernel, by decide +kernel⟩
abbrev s_law : Stmt := top 104
abbrev n_law : List Str := ["script", "cell", "well", "system", "spaces", "state", "k", "process", "told"]
abbrev p_law : List Str := ["script"]
theorem sc_law : FnScope n_law p_law (defScope s_law) := ⟨rfl, rfl, rfl, by decide +kernel, rfl, by decide +kernel, by decide +kernel⟩
abbrev kw_System_init : List (Str × V) := [("frames", .non), ("slots", .non), ("strict", .bl false)]
abbrev kw_map_pages : List (Str × V) := [("rights", .str "rw"), ("shared", .bl false), ("source", .non), ("index", .int 0), ("at", .non)]
abbrev kw_flag : List (Str × V) := [("merge", .non), ("stay", .non), ("wipe", .non)]
/-- the tuple of the rights, in the written part -/
def rightsIn (K : PySem.W.Frag) (a : Addr) : Bool := match K.lookup a with
  | some ⟨.type "tuple", _, .seq its _, _⟩ => (match its.toList with | [.str x _, .str y _, .str z _] => x == "none" && y == "r" && z == "rw" | _ => false)
  | _ => false
/-- the tuple of the flags -/
def flagsIn (K : PySem.W.Frag) (a : Addr) : Bool := match K.lookup a with
  | some ⟨.type "tuple", _, .seq its _, _⟩ => (match its.toList with | [.str x _, .str y _, .str z _, .str u _] => x == "lock" && y == "merge" && z == "stay" && u == "wipe" | _ => false)
  | _ => false
/-- the content of a new page -/
def zerosIn (K : PySem.W.Frag) (a : Addr) : Bool := match K.lookup a with
  | some ⟨.type "tuple", _, .seq _ _, _⟩ => true
  | _ => false
/-- where the top stands -/
structure Adr where
  a_with_rights : Addr
  fd_with_rights : FuncData
  a_with_flags : Addr
  fd_with_flags : FuncData
  a_with_lock : Addr
  fd_with_lock : FuncData
  a_with_held : Addr
  fd_with_held : FuncData
  a_with_stamp : Addr
  fd_with_stamp : FuncData
  a_attributes : Addr
  fd_attributes : FuncData
  a_has_object : Addr
  fd_has_object : FuncData
  a_arrange_locked : Addr
  fd_arrange_locked : FuncData
  a_add_locked : Addr
  fd_add_locked : FuncData
  a_this_step : Addr
  fd_this_step : FuncData
  a_count_page : Addr
  fd_count_page : FuncData
  a_discount_page : Addr
  fd_discount_page : FuncData
  a_discount_user : Addr
  fd_discount_user : FuncData
  a_replace_pages : Addr
  fd_replace_pages : FuncData
  a_end_step : Addr
  fd_end_step : FuncData
  a_is_integer : Addr
  fd_is_integer : FuncData
  a_is_word : Addr
  fd_is_word : FuncData
  a_require : Addr
  fd_require : FuncData
  a_table_of : Addr
  fd_table_of : FuncData
  a_numbers_of : Addr
  fd_numbers_of : FuncData
  a_require_mapped : Addr
  fd_require_mapped : FuncData
  a_require_unlocked : Addr
  fd_require_unlocked : FuncData
  a_file_of : Addr
  fd_file_of : FuncData
  a_require_charge : Addr
  fd_require_charge : FuncData
  a_require_source : Addr
  fd_require_source : FuncData
  a_place_for : Addr
  fd_place_for : FuncData
  a_map_pages : Addr
  fd_map_pages : FuncData
  a_new_pages : Addr
  fd_new_pages : FuncData
  a_unmap : Addr
  fd_unmap : FuncData
  a_protect : Addr
  fd_protect : FuncData
  a_flags_with : Addr
  fd_flags_with : FuncData
  a_flag : Addr
  fd_flag : FuncData
  a_move : Addr
  fd_move : FuncData
  a_continues : Addr
  fd_continues : FuncData
  a_regions : Addr
  fd_regions : FuncData
  a_free_runs : Addr
  fd_free_runs : FuncData
  a_lowest_gap : Addr
  fd_lowest_gap : FuncData
  a_new_process : Addr
  fd_new_process : FuncData
  a_unmap_all : Addr
  fd_unmap_all : FuncData
  a_end_process : Addr
  fd_end_process : FuncData
  a_spawn : Addr
  fd_spawn : FuncData
  a_child_page : Addr
  fd_child_page : FuncData
  a_pages_of_child : Addr
  fd_pages_of_child : FuncData
  a_fork : Addr
  fd_fork : FuncData
  a_leave : Addr
  fd_leave : FuncData
  a_fresh : Addr
  fd_fresh : FuncData
  a_processes : Addr
  fd_processes : FuncData
  a_is_name : Addr
  fd_is_name : FuncData
  a_new_pages_of_file : Addr
  fd_new_pages_of_file : FuncData
  a_create : Addr
  fd_create : FuncData
  a__law_well : Addr
  fd__law_well : FuncData
  a__law_draw : Addr
  fd__law_draw : FuncData
  a__law_one : Addr
  fd__law_one : FuncData
  a__law_fits : Addr
  fd__law_fits : FuncData
  a__law_regions : Addr
  fd__law_regions : FuncData
  a__law_alive : Addr
  fd__law_alive : FuncData
  a__law_mapped : Addr
  fd__law_mapped : FuncData
  a__law_range : Addr
  fd__law_range : FuncData
  a__law_changed : Addr
  fd__law_changed : FuncData
  a__law_ended : Addr
  fd__law_ended : FuncData
  a__law_step : Addr
  fd__law_step : FuncData
  a_law : Addr
  fd_law : FuncData
  c_NoProcess : Addr
  c_NoPages : Addr
  c_NotMapped : Addr
  c_NoFile : Addr
  c_Taken : Addr
  c_NoLock : Addr
  c_System : Addr
  c_Page : Addr
  c_Item : Addr
  c_History : Addr
  a_NoProcess_init : Addr
  fd_NoProcess_init : FuncData
  a_NoPages_init : Addr
  fd_NoPages_init : FuncData
  a_NotMapped_init : Addr
  fd_NotMapped_init : FuncData
  a_NoFile_init : Addr
  fd_NoFile_init : FuncData
  a_Taken_init : Addr
  fd_Taken_init : FuncData
  a_NoLock_init : Addr
  fd_NoLock_init : FuncData
  a_Item_init : Addr
  fd_Item_init : FuncData
  a_Page_init : Addr
  fd_Page_init : FuncData
  a_History_init : Addr
  fd_History_init : FuncData
  a_System_init : Addr
  fd_System_init : FuncData
  t_PAGES : Tok
  t_FILE_PAGES : Tok
  o_RIGHTS : Addr
  o_FLAGS : Addr
  o_ZEROS : Addr
/-- what the top has written -/
structure Txt (K : PySem.W.Frag) (mg : Str → Option Value) (A : Adr) : Prop where
  f_with_rights : Fun K "with_rights" "with_rights" s_with_rights A.a_with_rights A.fd_with_rights
  bi_with_rights : L2.Binds K A.fd_with_rights p_with_rights []
  g_with_rights : mg "with_rights" = some (.ref A.a_with_rights)
  k_with_rights : PySem.W.keepIn K (.ref A.a_with_rights) = true
  f_with_flags : Fun K "with_flags" "with_flags" s_with_flags A.a_with_flags A.fd_with_flags
  bi_with_flags : L2.Binds K A.fd_with_flags p_with_flags []
  g_with_flags : mg "with_flags" = some (.ref A.a_with_flags)
  k_with_flags : PySem.W.keepIn K (.ref A.a_with_flags) = true
  f_with_lock : Fun K "with_lock" "with_lock" s_with_lock A.a_with_lock A.fd_with_lock
  bi_with_lock : L2.Binds K A.fd_with_lock p_with_lock []
  g_with_lock : mg "with_lock" = some (.ref A.a_with_lock)
  k_with_lock : PySem.W.keepIn K (.ref A.a_with_lock) = true
  f_with_held : Fun K "with_held" "with_held" s_with_held A.a_with_held A.fd_with_held
  bi_with_held : L2.Binds K A.fd_with_held p_with_held []
  g_with_held : mg "with_held" = some (.ref A.a_with_held)
  k_with_held : PySem.W.keepIn K (.ref A.a_with_held) = true
  f_with_stamp : Fun K "with_stamp" "with_stamp" s_with_stamp A.a_with_stamp A.fd_with_stamp
  bi_with_stamp : L2.Binds K A.fd_with_stamp p_with_stamp []
  g_with_stamp : mg "with_stamp" = some (.ref A.a_with_stamp)
  k_with_stamp : PySem.W.keepIn K (.ref A.a_with_stamp) = true
  f_attributes : Fun K "attributes" "attributes" s_attributes A.a_attributes A.fd_attributes
  bi_attributes : L2.Binds K A.fd_attributes p_attributes []
  g_attributes : mg "attributes" = some (.ref A.a_attributes)
  k_attributes : PySem.W.keepIn K (.ref A.a_attributes) = true
  f_has_object : Fun K "has_object" "has_object" s_has_object A.a_has_object A.fd_has_object
  bi_has_object : L2.Binds K A.fd_has_object p_has_object []
  g_has_object : mg "has_object" = some (.ref A.a_has_object)
  k_has_object : PySem.W.keepIn K (.ref A.a_has_object) = true
  f_arrange_locked : Fun K "arrange_locked" "arrange_locked" s_arrange_locked A.a_arrange_locked A.fd_arrange_locked
  bi_arrange_locked : L2.Binds K A.fd_arrange_locked p_arrange_locked []
  g_arrange_locked : mg "arrange_locked" = some (.ref A.a_arrange_locked)
  k_arrange_locked : PySem.W.keepIn K (.ref A.a_arrange_locked) = true
  f_add_locked : Fun K "add_locked" "add_locked" s_add_locked A.a_add_locked A.fd_add_locked
  bi_add_locked : L2.Binds K A.fd_add_locked p_add_locked []
  g_add_locked : mg "add_locked" = some (.ref A.a_add_locked)
  k_add_locked : PySem.W.keepIn K (.ref A.a_add_locked) = true
  f_this_step : Fun K "this_step" "this_step" s_this_step A.a_this_step A.fd_this_step
  bi_this_step : L2.Binds K A.fd_this_step p_this_step []
  g_this_step : mg "this_step" = some (.ref A.a_this_step)
  k_this_step : PySem.W.keepIn K (.ref A.a_this_step) = true
  f_count_page : Fun K "count_page" "count_page" s_count_page A.a_count_page A.fd_count_page
  bi_count_page : L2.Binds K A.fd_count_page p_count_page []
  g_count_page : mg "count_page" = some (.ref A.a_count_page)
  k_count_page : PySem.W.keepIn K (.ref A.a_count_page) = true
  f_discount_page : Fun K "discount_page" "discount_page" s_discount_page A.a_discount_page A.fd_discount_page
  bi_discount_page : L2.Binds K A.fd_discount_page p_discount_page []
  g_discount_page : mg "discount_page" = some (.ref A.a_discount_page)
  k_discount_page : PySem.W.keepIn K (.ref A.a_discount_page) = true
  f_discount_user : Fun K "discount_user" "discount_user" s_discount_user A.a_discount_user A.fd_discount_user
  bi_discount_user : L2.Binds K A.fd_discount_user p_discount_user []
  g_discount_user : mg "discount_user" = some (.ref A.a_discount_user)
  k_discount_user : PySem.W.keepIn K (.ref A.a_discount_user) = true
  f_replace_pages : Fun K "replace_pages" "replace_pages" s_replace_pages A.a_replace_pages A.fd_replace_pages
  bi_replace_pages : L2.Binds K A.fd_replace_pages p_replace_pages []
  g_replace_pages : mg "replace_pages" = some (.ref A.a_replace_pages)
  k_replace_pages : PySem.W.keepIn K (.ref A.a_replace_pages) = true
  f_end_step : Fun K "end_step" "end_step" s_end_step A.a_end_step A.fd_end_step
  bi_end_step : L2.Binds K A.fd_end_step p_end_step []
  g_end_step : mg "end_step" = some (.ref A.a_end_step)
  k_end_step : PySem.W.keepIn K (.ref A.a_end_step) = true
  f_is_integer : Fun K "is_integer" "is_integer" s_is_integer A.a_is_integer A.fd_is_integer
  bi_is_integer : L2.Binds K A.fd_is_integer p_is_integer []
  g_is_integer : mg "is_integer" = some (.ref A.a_is_integer)
  k_is_integer : PySem.W.keepIn K (.ref A.a_is_integer) = true
  f_is_word : Fun K "is_word" "is_word" s_is_word A.a_is_word A.fd_is_word
  bi_is_word : L2.Binds K A.fd_is_word p_is_word []
  g_is_word : mg "is_word" = some (.ref A.a_is_word)
  k_is_word : PySem.W.keepIn K (.ref A.a_is_word) = true
  f_require : Fun K "require" "require" s_require A.a_require A.fd_require
  bi_require : L2.Binds K A.fd_require p_require []
  g_require : mg "require" = some (.ref A.a_require)
  k_require : PySem.W.keepIn K (.ref A.a_require) = true
  f_table_of : Fun K "table_of" "table_of" s_table_of A.a_table_of A.fd_table_of
  bi_table_of : L2.Binds K A.fd_table_of p_table_of []
  g_table_of : mg "table_of" = some (.ref A.a_table_of)
  k_table_of : PySem.W.keepIn K (.ref A.a_table_of) = true
  f_numbers_of : Fun K "numbers_of" "numbers_of" s_numbers_of A.a_numbers_of A.fd_numbers_of
  bi_numbers_of : L2.Binds K A.fd_numbers_of p_numbers_of []
  g_numbers_of : mg "numbers_of" = some (.ref A.a_numbers_of)
  k_numbers_of : PySem.W.keepIn K (.ref A.a_numbers_of) = true
  f_require_mapped : Fun K "require_mapped" "require_mapped" s_require_mapped A.a_require_mapped A.fd_require_mapped
  bi_require_mapped : L2.Binds K A.fd_require_mapped p_require_mapped []
  g_require_mapped : mg "require_mapped" = some (.ref A.a_require_mapped)
  k_require_mapped : PySem.W.keepIn K (.ref A.a_require_mapped) = true
  f_require_unlocked : Fun K "require_unlocked" "require_unlocked" s_require_unlocked A.a_require_unlocked A.fd_require_unlocked
  bi_require_unlocked : L2.Binds K A.fd_require_unlocked p_require_unlocked []
  g_require_unlocked : mg "require_unlocked" = some (.ref A.a_require_unlocked)
  k_require_unlocked : PySem.W.keepIn K (.ref A.a_require_unlocked) = true
  f_file_of : Fun K "file_of" "file_of" s_file_of A.a_file_of A.fd_file_of
  bi_file_of : L2.Binds K A.fd_file_of p_file_of []
  g_file_of : mg "file_of" = some (.ref A.a_file_of)
  k_file_of : PySem.W.keepIn K (.ref A.a_file_of) = true
  f_require_charge : Fun K "require_charge" "require_charge" s_require_charge A.a_require_charge A.fd_require_charge
  bi_require_charge : L2.Binds K A.fd_require_charge p_require_charge []
  g_require_charge : mg "require_charge" = some (.ref A.a_require_charge)
  k_require_charge : PySem.W.keepIn K (.ref A.a_require_charge) = true
  f_require_source : Fun K "require_source" "require_source" s_require_source A.a_require_source A.fd_require_source
  bi_require_source : L2.Binds K A.fd_require_source p_require_source []
  g_require_source : mg "require_source" = some (.ref A.a_require_source)
  k_require_source : PySem.W.keepIn K (.ref A.a_require_source) = true
  f_place_for : Fun K "place_for" "place_for" s_place_for A.a_place_for A.fd_place_for
  bi_place_for : L2.Binds K A.fd_place_for p_place_for []
  g_place_for : mg "place_for" = some (.ref A.a_place_for)
  k_place_for : PySem.W.keepIn K (.ref A.a_place_for) = true
  f_map_pages : FunD K "map_pages" "map_pages" (defArgs s_map_pages) (defBody s_map_pages) (defScope s_map_pages) [] kw_map_pages A.a_map_pages A.fd_map_pages
  g_map_pages : mg "map_pages" = some (.ref A.a_map_pages)
  k_map_pages : PySem.W.keepIn K (.ref A.a_map_pages) = true
  f_new_pages : Fun K "new_pages" "new_pages" s_new_pages A.a_new_pages A.fd_new_pages
  bi_new_pages : L2.Binds K A.fd_new_pages p_new_pages []
  g_new_pages : mg "new_pages" = some (.ref A.a_new_pages)
  k_new_pages : PySem.W.keepIn K (.ref A.a_new_pages) = true
  f_unmap : Fun K "unmap" "unmap" s_unmap A.a_unmap A.fd_unmap
  bi_unmap : L2.Binds K A.fd_unmap p_unmap []
  g_unmap : mg "unmap" = some (.ref A.a_unmap)
  k_unmap : PySem.W.keepIn K (.ref A.a_unmap) = true
  f_protect : Fun K "protect" "protect" s_protect A.a_protect A.fd_protect
  bi_protect : L2.Binds K A.fd_protect p_protect []
  g_protect : mg "protect" = some (.ref A.a_protect)
  k_protect : PySem.W.keepIn K (.ref A.a_protect) = true
  f_flags_with : Fun K "flags_with" "flags_with" s_flags_with A.a_flags_with A.fd_flags_with
  bi_flags_with : L2.Binds K A.fd_flags_with p_flags_with []
  g_flags_with : mg "flags_with" = some (.ref A.a_flags_with)
  k_flags_with : PySem.W.keepIn K (.ref A.a_flags_with) = true
  f_flag : FunD K "flag" "flag" (defArgs s_flag) (defBody s_flag) (defScope s_flag) [] kw_flag A.a_flag A.fd_flag
  g_flag : mg "flag" = some (.ref A.a_flag)
  k_flag : PySem.W.keepIn K (.ref A.a_flag) = true
  f_move : Fun K "move" "move" s_move A.a_move A.fd_move
  bi_move : L2.Binds K A.fd_move p_move []
  g_move : mg "move" = some (.ref A.a_move)
  k_move : PySem.W.keepIn K (.ref A.a_move) = true
  f_continues : Fun K "continues" "continues" s_continues A.a_continues A.fd_continues
  bi_continues : L2.Binds K A.fd_continues p_continues []
  g_continues : mg "continues" = some (.ref A.a_continues)
  k_continues : PySem.W.keepIn K (.ref A.a_continues) = true
  f_regions : Fun K "regions" "regions" s_regions A.a_regions A.fd_regions
  bi_regions : L2.Binds K A.fd_regions p_regions []
  g_regions : mg "regions" = some (.ref A.a_regions)
  k_regions : PySem.W.keepIn K (.ref A.a_regions) = true
  f_free_runs : Fun K "free_runs" "free_runs" s_free_runs A.a_free_runs A.fd_free_runs
  bi_free_runs : L2.Binds K A.fd_free_runs p_free_runs []
  g_free_runs : mg "free_runs" = some (.ref A.a_free_runs)
  k_free_runs : PySem.W.keepIn K (.ref A.a_free_runs) = true
  f_lowest_gap : Fun K "lowest_gap" "lowest_gap" s_lowest_gap A.a_lowest_gap A.fd_lowest_gap
  bi_lowest_gap : L2.Binds K A.fd_lowest_gap p_lowest_gap []
  g_lowest_gap : mg "lowest_gap" = some (.ref A.a_lowest_gap)
  k_lowest_gap : PySem.W.keepIn K (.ref A.a_lowest_gap) = true
  f_new_process : Fun K "new_process" "new_process" s_new_process A.a_new_process A.fd_new_process
  bi_new_process : L2.Binds K A.fd_new_process p_new_process []
  g_new_process : mg "new_process" = some (.ref A.a_new_process)
  k_new_process : PySem.W.keepIn K (.ref A.a_new_process) = true
  f_unmap_all : Fun K "unmap_all" "unmap_all" s_unmap_all A.a_unmap_all A.fd_unmap_all
  bi_unmap_all : L2.Binds K A.fd_unmap_all p_unmap_all []
  g_unmap_all : mg "unmap_all" = some (.ref A.a_unmap_all)
  k_unmap_all : PySem.W.keepIn K (.ref A.a_unmap_all) = true
  f_end_process : Fun K "end_process" "end_process" s_end_process A.a_end_process A.fd_end_process
  bi_end_process : L2.Binds K A.fd_end_process p_end_process []
  g_end_process : mg "end_process" = some (.ref A.a_end_process)
  k_end_process : PySem.W.keepIn K (.ref A.a_end_process) = true
  f_spawn : Fun K "spawn" "spawn" s_spawn A.a_spawn A.fd_spawn
  bi_spawn : L2.Binds K A.fd_spawn p_spawn []
  g_spawn : mg "spawn" = some (.ref A.a_spawn)
  k_spawn : PySem.W.keepIn K (.ref A.a_spawn) = true
  f_child_page : Fun K "child_page" "child_page" s_child_page A.a_child_page A.fd_child_page
  bi_child_page : L2.Binds K A.fd_child_page p_child_page []
  g_child_page : mg "child_page" = some (.ref A.a_child_page)
  k_child_page : PySem.W.keepIn K (.ref A.a_child_page) = true
  f_pages_of_child : Fun K "pages_of_child" "pages_of_child" s_pages_of_child A.a_pages_of_child A.fd_pages_of_child
  bi_pages_of_child : L2.Binds K A.fd_pages_of_child p_pages_of_child []
  g_pages_of_child : mg "pages_of_child" = some (.ref A.a_pages_of_child)
  k_pages_of_child : PySem.W.keepIn K (.ref A.a_pages_of_child) = true
  f_fork : Fun K "fork" "fork" s_fork A.a_fork A.fd_fork
  bi_fork : L2.Binds K A.fd_fork p_fork []
  g_fork : mg "fork" = some (.ref A.a_fork)
  k_fork : PySem.W.keepIn K (.ref A.a_fork) = true
  f_leave : Fun K "leave" "leave" s_leave A.a_leave A.fd_leave
  bi_leave : L2.Binds K A.fd_leave p_leave []
  g_leave : mg "leave" = some (.ref A.a_leave)
  k_leave : PySem.W.keepIn K (.ref A.a_leave) = true
  f_fresh : Fun K "fresh" "fresh" s_fresh A.a_fresh A.fd_fresh
  bi_fresh : L2.Binds K A.fd_fresh p_fresh []
  g_fresh : mg "fresh" = some (.ref A.a_fresh)
  k_fresh : PySem.W.keepIn K (.ref A.a_fresh) = true
  f_processes : Fun K "processes" "processes" s_processes A.a_processes A.fd_processes
  bi_processes : L2.Binds K A.fd_processes p_processes []
  g_processes : mg "processes" = some (.ref A.a_processes)
  k_processes : PySem.W.keepIn K (.ref A.a_processes) = true
  f_is_name : Fun K "is_name" "is_name" s_is_name A.a_is_name A.fd_is_name
  bi_is_name : L2.Binds K A.fd_is_name p_is_name []
  g_is_name : mg "is_name" = some (.ref A.a_is_name)
  k_is_name : PySem.W.keepIn K (.ref A.a_is_name) = true
  f_new_pages_of_file : Fun K "new_pages_of_file" "new_pages_of_file" s_new_pages_of_file A.a_new_pages_of_file A.fd_new_pages_of_file
  bi_new_pages_of_file : L2.Binds K A.fd_new_pages_of_file p_new_pages_of_file []
  g_new_pages_of_file : mg "new_pages_of_file" = some (.ref A.a_new_pages_of_file)
  k_new_pages_of_file : PySem.W.keepIn K (.ref A.a_new_pages_of_file) = true
  f_create : Fun K "create" "create" s_create A.a_create A.fd_create
  bi_create : L2.Binds K A.fd_create p_create []
  g_create : mg "create" = some (.ref A.a_create)
  k_create : PySem.W.keepIn K (.ref A.a_create) = true
  f__law_well : Fun K "_law_well" "_law_well" s__law_well A.a__law_well A.fd__law_well
  bi__law_well : L2.Binds K A.fd__law_well p__law_well []
  g__law_well : mg "_law_well" = some (.ref A.a__law_well)
  k__law_well : PySem.W.keepIn K (.ref A.a__law_well) = true
  f__law_draw : Fun K "_law_draw" "_law_draw" s__law_draw A.a__law_draw A.fd__law_draw
  bi__law_draw : L2.Binds K A.fd__law_draw p__law_draw []
  g__law_draw : mg "_law_draw" = some (.ref A.a__law_draw)
  k__law_draw : PySem.W.keepIn K (.ref A.a__law_draw) = true
  f__law_one : Fun K "_law_one" "_law_one" s__law_one A.a__law_one A.fd__law_one
  bi__law_one : L2.Binds K A.fd__law_one p__law_one []
  g__law_one : mg "_law_one" = some (.ref A.a__law_one)
  k__law_one : PySem.W.keepIn K (.ref A.a__law_one) = true
  f__law_fits : Fun K "_law_fits" "_law_fits" s__law_fits A.a__law_fits A.fd__law_fits
  bi__law_fits : L2.Binds K A.fd__law_fits p__law_fits []
  g__law_fits : mg "_law_fits" = some (.ref A.a__law_fits)
  k__law_fits : PySem.W.keepIn K (.ref A.a__law_fits) = true
  f__law_regions : Fun K "_law_regions" "_law_regions" s__law_regions A.a__law_regions A.fd__law_regions
  bi__law_regions : L2.Binds K A.fd__law_regions p__law_regions []
  g__law_regions : mg "_law_regions" = some (.ref A.a__law_regions)
  k__law_regions : PySem.W.keepIn K (.ref A.a__law_regions) = true
  f__law_alive : Fun K "_law_alive" "_law_alive" s__law_alive A.a__law_alive A.fd__law_alive
  bi__law_alive : L2.Binds K A.fd__law_alive p__law_alive []
  g__law_alive : mg "_law_alive" = some (.ref A.a__law_alive)
  k__law_alive : PySem.W.keepIn K (.ref A.a__law_alive) = true
  f__law_mapped : Fun K "_law_mapped" "_law_mapped" s__law_mapped A.a__law_mapped A.fd__law_mapped
  bi__law_mapped : L2.Binds K A.fd__law_mapped p__law_mapped []
  g__law_mapped : mg "_law_mapped" = some (.ref A.a__law_mapped)
  k__law_mapped : PySem.W.keepIn K (.ref A.a__law_mapped) = true
  f__law_range : Fun K "_law_range" "_law_range" s__law_range A.a__law_range A.fd__law_range
  bi__law_range : L2.Binds K A.fd__law_range p__law_range []
  g__law_range : mg "_law_range" = some (.ref A.a__law_range)
  k__law_range : PySem.W.keepIn K (.ref A.a__law_range) = true
  f__law_changed : Fun K "_law_changed" "_law_changed" s__law_changed A.a__law_changed A.fd__law_changed
  bi__law_changed : L2.Binds K A.fd__law_changed p__law_changed []
  g__law_changed : mg "_law_changed" = some (.ref A.a__law_changed)
  k__law_changed : PySem.W.keepIn K (.ref A.a__law_changed) = true
  f__law_ended : Fun K "_law_ended" "_law_ended" s__law_ended A.a__law_ended A.fd__law_ended
  bi__law_ended : L2.Binds K A.fd__law_ended p__law_ended []
  g__law_ended : mg "_law_ended" = some (.ref A.a__law_ended)
  k__law_ended : PySem.W.keepIn K (.ref A.a__law_ended) = true
  f__law_step : Fun K "_law_step" "_law_step" s__law_step A.a__law_step A.fd__law_step
  bi__law_step : L2.Binds K A.fd__law_step p__law_step []
  g__law_step : mg "_law_step" = some (.ref A.a__law_step)
  k__law_step : PySem.W.keepIn K (.ref A.a__law_step) = true
  f_law : Fun K "law" "law" s_law A.a_law A.fd_law
  bi_law : L2.Binds K A.fd_law p_law []
  g_law : mg "law" = some (.ref A.a_law)
  k_law : PySem.W.keepIn K (.ref A.a_law) = true
  g_NoProcess : mg "NoProcess" = some (.ref A.c_NoProcess)
  g_NoPages : mg "NoPages" = some (.ref A.c_NoPages)
  g_NotMapped : mg "NotMapped" = some (.ref A.c_NotMapped)
  g_NoFile : mg "NoFile" = some (.ref A.c_NoFile)
  g_Taken : mg "Taken" = some (.ref A.c_Taken)
  g_NoLock : mg "NoLock" = some (.ref A.c_NoLock)
  g_System : mg "System" = some (.ref A.c_System)
  g_Page : mg "Page" = some (.ref A.c_Page)
  g_Item : mg "Item" = some (.ref A.c_Item)
  g_History : mg "History" = some (.ref A.c_History)
  f_NoProcess_init : Fun K "__init__" "NoProcess.__init__" s_NoProcess_init A.a_NoProcess_init A.fd_NoProcess_init
  bi_NoProcess_init : L2.Binds K A.fd_NoProcess_init p_NoProcess_init []
  f_NoPages_init : Fun K "__init__" "NoPages.__init__" s_NoPages_init A.a_NoPages_init A.fd_NoPages_init
  bi_NoPages_init : L2.Binds K A.fd_NoPages_init p_NoPages_init []
  f_NotMapped_init : Fun K "__init__" "NotMapped.__init__" s_NotMapped_init A.a_NotMapped_init A.fd_NotMapped_init
  bi_NotMapped_init : L2.Binds K A.fd_NotMapped_init p_NotMapped_init []
  f_NoFile_init : Fun K "__init__" "NoFile.__init__" s_NoFile_init A.a_NoFile_init A.fd_NoFile_init
  bi_NoFile_init : L2.Binds K A.fd_NoFile_init p_NoFile_init []
  f_Taken_init : Fun K "__init__" "Taken.__init__" s_Taken_init A.a_Taken_init A.fd_Taken_init
  bi_Taken_init : L2.Binds K A.fd_Taken_init p_Taken_init []
  f_NoLock_init : Fun K "__init__" "NoLock.__init__" s_NoLock_init A.a_NoLock_init A.fd_NoLock_init
  bi_NoLock_init : L2.Binds K A.fd_NoLock_init p_NoLock_init []
  f_Item_init : Fun K "__init__" "Item.__init__" s_Item_init A.a_Item_init A.fd_Item_init
  bi_Item_init : L2.Binds K A.fd_Item_init p_Item_init []
  f_Page_init : Fun K "__init__" "Page.__init__" s_Page_init A.a_Page_init A.fd_Page_init
  bi_Page_init : L2.Binds K A.fd_Page_init p_Page_init []
  f_History_init : Fun K "__init__" "History.__init__" s_History_init A.a_History_init A.fd_History_init
  bi_History_init : L2.Binds K A.fd_History_init p_History_init []
  f_System_init : FunD K "__init__" "System.__init__" (defArgs s_System_init) (defBody s_System_init) (defScope s_System_init) [] kw_System_init A.a_System_init A.fd_System_init
  x_NoProcess : OexC K A.c_NoProcess
  xf_NoProcess : XfC K A.c_NoProcess
  xn_NoProcess : PySem.W.findIn K (.ref A.c_NoProcess) "process" = some none
  xi_NoProcess : PySem.W.findIn K (.ref A.c_NoProcess) "__init__" = some (some (.ref A.a_NoProcess_init))
  xt_NoProcess : PySem.W.typeIn K (.ref A.a_NoProcess_init) = some (.type "function")
  x_NoPages : OexC K A.c_NoPages
  xf_NoPages : XfC K A.c_NoPages
  xn_NoPages : PySem.W.findIn K (.ref A.c_NoPages) "part" = some none
  xi_NoPages : PySem.W.findIn K (.ref A.c_NoPages) "__init__" = some (some (.ref A.a_NoPages_init))
  xt_NoPages : PySem.W.typeIn K (.ref A.a_NoPages_init) = some (.type "function")
  x_NotMapped : OexC K A.c_NotMapped
  xf_NotMapped : XfC K A.c_NotMapped
  xn_NotMapped : PySem.W.findIn K (.ref A.c_NotMapped) "page" = some none
  xi_NotMapped : PySem.W.findIn K (.ref A.c_NotMapped) "__init__" = some (some (.ref A.a_NotMapped_init))
  xt_NotMapped : PySem.W.typeIn K (.ref A.a_NotMapped_init) = some (.type "function")
  x_NoFile : OexC K A.c_NoFile
  xf_NoFile : XfC K A.c_NoFile
  xn_NoFile : PySem.W.findIn K (.ref A.c_NoFile) "name" = some none
  xi_NoFile : PySem.W.findIn K (.ref A.c_NoFile) "__init__" = some (some (.ref A.a_NoFile_init))
  xt_NoFile : PySem.W.typeIn K (.ref A.a_NoFile_init) = some (.type "function")
  x_Taken : OexC K A.c_Taken
  xf_Taken : XfC K A.c_Taken
  xn_Taken : PySem.W.findIn K (.ref A.c_Taken) "name" = some none
  xi_Taken : PySem.W.findIn K (.ref A.c_Taken) "__init__" = some (some (.ref A.a_Taken_init))
  xt_Taken : PySem.W.typeIn K (.ref A.a_Taken_init) = some (.type "function")
  x_NoLock : OexC K A.c_NoLock
  xf_NoLock : XfC K A.c_NoLock
  xn_NoLock : PySem.W.findIn K (.ref A.c_NoLock) "page" = some none
  xi_NoLock : PySem.W.findIn K (.ref A.c_NoLock) "__init__" = some (some (.ref A.a_NoLock_init))
  xt_NoLock : PySem.W.typeIn K (.ref A.a_NoLock_init) = some (.type "function")
  cl_System : Cls K A.c_System
  mk_System : Mk K A.c_System A.a_System_init
  n_System_frames : NoAttr K A.c_System "frames"
  n_System_slots : NoAttr K A.c_System "slots"
  n_System_strict : NoAttr K A.c_System "strict"
  n_System_steps_made : NoAttr K A.c_System "steps_made"
  n_System_processes_made : NoAttr K A.c_System "processes_made"
  n_System_objects_made : NoAttr K A.c_System "objects_made"
  n_System_tables : NoAttr K A.c_System "tables"
  n_System_objects : NoAttr K A.c_System "objects"
  n_System_object_pages : NoAttr K A.c_System "object_pages"
  n_System_files : NoAttr K A.c_System "files"
  n_System_classes : NoAttr K A.c_System "classes"
  n_System_locked_pages : NoAttr K A.c_System "locked_pages"
  n_System_memory : NoAttr K A.c_System "memory"
  n_System_swapped : NoAttr K A.c_System "swapped"
  n_System_faults : NoAttr K A.c_System "faults"
  n_System_swap_outs : NoAttr K A.c_System "swap_outs"
  n_System_write_backs : NoAttr K A.c_System "write_backs"
  n_System_history : NoAttr K A.c_System "history"
  cl_Page : Cls K A.c_Page
  mk_Page : Mk K A.c_Page A.a_Page_init
  n_Page_rights : NoAttr K A.c_Page "rights"
  n_Page_shared : NoAttr K A.c_Page "shared"
  n_Page_source : NoAttr K A.c_Page "source"
  n_Page_index : NoAttr K A.c_Page "index"
  n_Page_flags : NoAttr K A.c_Page "flags"
  n_Page_held : NoAttr K A.c_Page "held"
  n_Page_stamp : NoAttr K A.c_Page "stamp"
  cl_Item : Cls K A.c_Item
  mk_Item : Mk K A.c_Item A.a_Item_init
  n_Item_source : NoAttr K A.c_Item "source"
  n_Item_index : NoAttr K A.c_Item "index"
  n_Item_content : NoAttr K A.c_Item "content"
  n_Item_origin : NoAttr K A.c_Item "origin"
  n_Item_position : NoAttr K A.c_Item "position"
  n_Item_holders : NoAttr K A.c_Item "holders"
  n_Item_locks : NoAttr K A.c_Item "locks"
  n_Item_dirty : NoAttr K A.c_Item "dirty"
  n_Item_on_disk : NoAttr K A.c_Item "on_disk"
  n_Item_dirty_from : NoAttr K A.c_Item "dirty_from"
  n_Item_saved : NoAttr K A.c_Item "saved"
  n_Item_saved_with : NoAttr K A.c_Item "saved_with"
  cl_History : Cls K A.c_History
  mk_History : Mk K A.c_History A.a_History_init
  n_History_row : NoAttr K A.c_History "row"
  n_History_holes : NoAttr K A.c_History "holes"
  n_History_locked : NoAttr K A.c_History "locked"
  n_History_classes : NoAttr K A.c_History "classes"
  n_History_touches : NoAttr K A.c_History "touches"
  n_History_distances : NoAttr K A.c_History "distances"
  n_History_swap_outs : NoAttr K A.c_History "swap_outs"
  n_History_write_backs : NoAttr K A.c_History "write_backs"
  n_History_most_slots : NoAttr K A.c_History "most_slots"
  n_History_saves : NoAttr K A.c_History "saves"
  n_History_lock_changes : NoAttr K A.c_History "lock_changes"
  n_History_most_locked : NoAttr K A.c_History "most_locked"
  n_History_crashed : NoAttr K A.c_History "crashed"
  n_History_merged : NoAttr K A.c_History "merged"
  g_PAGES : mg "PAGES" = some (.int 512 A.t_PAGES)
  g_FILE_PAGES : mg "FILE_PAGES" = some (.int 64 A.t_FILE_PAGES)
  b_int : mg "int" = none
  b_len : mg "len" = none
  b_isinstance : mg "isinstance" = none
  b_bool : mg "bool" = none
  b_str : mg "str" = none
  b_list : mg "list" = none
  b_range : mg "range" = none
  b_enumerate : mg "enumerate" = none
  b_sorted : mg "sorted" = none
  b_tuple : mg "tuple" = none
  b_dict : mg "dict" = none
  b_all : mg "all" = none
  b_min : mg "min" = none
  b_abs : mg "abs" = none
  g_RIGHTS : mg "RIGHTS" = some (.ref A.o_RIGHTS)
  r_RIGHTS : rightsIn K A.o_RIGHTS = true
  g_FLAGS : mg "FLAGS" = some (.ref A.o_FLAGS)
  r_FLAGS : flagsIn K A.o_FLAGS = true
  g_ZEROS : mg "ZEROS" = some (.ref A.o_ZEROS)
  r_ZEROS : zerosIn K A.o_ZEROS = true
section
variable {P : Program} {w : World} {K : PySem.W.Frag} {mg : Str → Option Value} {base : Heap} {A : Adr}
theorem ok_is_integer (G : Txt K mg A) : FnOk P w K mg base CX0 1 A.a_is_integer A.fd_is_integer p_is_integer (fun vs H Q _ => ∃ (v : V) (lo hi : Int), vs = [v, .int lo, .int hi] ∧ AnyV H v ∧ Q (.bl (inR lo hi v)) H) := by
  refine G.f_is_integer.ok sc_is_integer (fun vs H Q E h => ?_) (fun cdv A' outer s H vs Q E hr h => ?_)
  · obtain ⟨v, lo, hi, rfl, _⟩ := h
    rfl
  · obtain ⟨v, lo, hi, rfl, hv, k⟩ := h
    refine ⟨_, (pss_one (ps_ret (pe_and (pe_callB call_isi (by rfl) G.b_isinstance (by decide +kernel) (pa_cons (pv 0) (pa_cons (pe_bltn (v := .ty "int") (u := .type "int") (by rfl) G.b_int (by decide +kernel) rfl) pa_nil))) (pe_and (pe_not (pe_callB call_isi (by rfl) G.b_isinstance (by decide +kernel) (pa_cons (pv 0) (pa_cons (pe_bltn (v := .ty "bool") (u := .type "bool") (by rfl) G.b_bool (by decide +kernel) rfl) pa_nil)))) (pe_one (pe_chain op_le op_le (pv 1) (pv 0) (pv 2))))))), ?_⟩
    obtain ⟨t, h1, h2, h3, _⟩ := hv.ty (K := K)
    walk_at "go"
    walk_at "ds"
    refine ⟨v, .ty "int", .type t, .type "int", _, rfl, .ty "int", h1, h2, _, rfl, ?_⟩
    cases e : isI v with
    | false =>
      refine iteF ?_
      have q : inR lo hi v = false := by cases v <;> first | rfl | cases e
      rw [q] at k
      exact k
    | true =>
      refine iteT ⟨_, rfl, v, .ty "bool", .type t, .type "bool", _, rfl, .ty "bool", h1, h3, _, rfl, _, rfl, ?_⟩
      cases e2 : isB v with
      | true =>
        refine iteF ?_
        have q : inR lo hi v = false := by cases v <;> first | rfl | cases e2
        rw [q] at k
        exact k
      | false =>
        refine iteT ?_
        obtain ⟨i, rfl⟩ : ∃ i, v = V.int i := by cases v <;> first | exact ⟨_, rfl⟩ | (cases e; done) | (cases e2; done)
        refine ⟨_, rfl, _, rfl, _, _, rfl, rfl, _, rfl, ?_⟩
        refine iteD (fun c => ?_) (fun c => ?_)
        · refine ⟨_, rfl, _, _, rfl, rfl, ?_⟩
          have q : inR lo hi (V.int i) = decide (i ≤ hi) := by
            show decide (lo ≤ i ∧ i ≤ hi) = _
            simp [c]
          rw [q] at k
          exact k
        · have q : inR lo hi (V.int i) = false := by
            show decide (lo ≤ i ∧ i ≤ hi) = _
            simp [c]
          rw [q] at k
          exact k
theorem ok_NoProcess_init (G : Txt K mg A) : FnOk P w K mg base CX0 1 A.a_NoProcess_init A.fd_NoProcess_init p_NoProcess_init (spXi K "process") := by
  refine G.f_NoProcess_init.ok sc_NoProcess_init (fun vs H Q E h => ?_) (fun cdv A' outer s H vs Q E hr h => ?_)
  · obtain ⟨a, C, y, rfl, _⟩ := h
    rfl
  · obtain ⟨a, C, y, rfl, hC, hn, ha, k⟩ := h
    exact ⟨_, pss_one (ps_ost (pv 0) (pv 1)), _, rfl, _, rfl, a, C, rfl, hC, hn, .inl ⟨ha, k⟩⟩
theorem ok_NoPages_init (G : Txt K mg A) : FnOk P w K mg base CX0 1 A.a_NoPages_init A.fd_NoPages_init p_NoPages_init (spXi K "part") := by
  refine G.f_NoPages_init.ok sc_NoPages_init (fun vs H Q E h => ?_) (fun cdv A' outer s H vs Q E hr h => ?_)
  · obtain ⟨a, C, y, rfl, _⟩ := h
    rfl
  · obtain ⟨a, C, y, rfl, hC, hn, ha, k⟩ := h
    exact ⟨_, pss_one (ps_ost (pv 0) (pv 1)), _, rfl, _, rfl, a, C, rfl, hC, hn, .inl ⟨ha, k⟩⟩
theorem ok_NotMapped_init (G : Txt K mg A) : FnOk P w K mg base CX0 1 A.a_NotMapped_init A.fd_NotMapped_init p_NotMapped_init (spXi K "page") := by
  refine G.f_NotMapped_init.ok sc_NotMapped_init (fun vs H Q E h => ?_) (fun cdv A' outer s H vs Q E hr h => ?_)
  · obtain ⟨a, C, y, rfl, _⟩ := h
    rfl
  · obtain ⟨a, C, y, rfl, hC, hn, ha, k⟩ := h
    exact ⟨_, pss_one (ps_ost (pv 0) (pv 1)), _, rfl, _, rfl, a, C, rfl, hC, hn, .inl ⟨ha, k⟩⟩
theorem ok_NoFile_init (G : Txt K mg A) : FnOk P w K mg base CX0 1 A.a_NoFile_init A.fd_NoFile_init p_NoFile_init (spXi K "name") := by
  refine G.f_NoFile_init.ok sc_NoFile_init (fun vs H Q E h => ?_) (fun cdv A' outer s H vs Q E hr h => ?_)
  · obtain ⟨a, C, y, rfl, _⟩ := h
    rfl
  · obtain ⟨a, C, y, rfl, hC, hn, ha, k⟩ := h
    exact ⟨_, pss_one (ps_ost (pv 0) (pv 1)), _, rfl, _, rfl, a, C, rfl, hC, hn, .inl ⟨ha, k⟩⟩
theorem ok_Taken_init (G : Txt K mg A) : FnOk P w K mg base CX0 1 A.a_Taken_init A.fd_Taken_init p_Taken_init (spXi K "name") := by
  refine G.f_Taken_init.ok sc_Taken_init (fun vs H Q E h => ?_) (fun cdv A' outer s H vs Q E hr h => ?_)
  · obtain ⟨a, C, y, rfl, _⟩ := h
    rfl
  · obtain ⟨a, C, y, rfl, hC, hn, ha, k⟩ := h
    exact ⟨_, pss_one (ps_ost (pv 0) (pv 1)), _, rfl, _, rfl, a, C, rfl, hC, hn, .inl ⟨ha, k⟩⟩
theorem ok_NoLock_init (G : Txt K mg A) : FnOk P w K mg base CX0 1 A.a_NoLock_init A.fd_NoLock_init p_NoLock_init (spXi K "page") := by
  refine G.f_NoLock_init.ok sc_NoLock_init (fun vs H Q E h => ?_) (fun cdv A' outer s H vs Q E hr h => ?_)
  · obtain ⟨a, C, y, rfl, _⟩ := h
    rfl
  · obtain ⟨a, C, y, rfl, hC, hn, ha, k⟩ := h
    exact ⟨_, pss_one (ps_ost (pv 0) (pv 1)), _, rfl, _, rfl, a, C, rfl, hC, hn, .inl ⟨ha, k⟩⟩
theorem sf_val {C x dx : Addr} {fs fs' : List (Str × V)} {H : Hp} {D : Ends} {σ : St} {f : Str} {y : V} {te : TE} (hte : ∀ Q : VK, Q y H → te σ H Q) (cl : Cls K C) (na : NoAttr K C f) (h0 : σ[0]? = some (some (.ref x)))
    (hx : H x = some (.ins C dx fs)) (hl : fs.length < 1000) (he : putF f y fs = fs') (k : ∀ H', But x H H' → (∀ b, b ≠ x → H' b = H b) → H' x = some (.ins C dx fs') → D.nx σ H') : sFld K (tVar 0) te f D σ H :=
  hte _ ⟨_, h0, x, C, dx, fs, rfl, hx, cl, na, hl, k _ But.up (fun b hb => upd_ne hb) (by rw [he, upd_same])⟩
def PgAt (C : Addr) (H : Hp) (p : Addr) (r s so i f h : V) : Prop := ∃ dx : Addr × Int, H p = some (.ins C dx.1 (pageF r s so i f h (.int dx.2)))
def spPage (A : Adr) : Sp := fun vs H Q _ => ∃ (x dx : Addr) (r s so i f h : V) (n : Int), vs = [.ref x, r, s, so, i, f, h, .int n] ∧ H x = some (.ins A.c_Page dx []) ∧
  ∀ H', But x H H' → PgAt A.c_Page H' x r s so i f h → Q .non H'
theorem ok_Page_init (G : Txt K mg A) : FnOk P w K mg base CX0 1 A.a_Page_init A.fd_Page_init p_Page_init (spPage A) := by
  refine G.f_Page_init.ok sc_Page_init (fun vs H Q E h => ?_) (fun cdv A' outer s H vs Q E hr h => ?_)
  · obtain ⟨x, dx, r, s, so, i, f, h, n, rfl, _⟩ := h
    rfl
  · obtain ⟨x, dx, r, s, so, i, f, h, n, rfl, hx, k⟩ := h
    refine ⟨_, (pss_cons (ps_fld (pv 0) (pv 1) rfl)
  (pss_cons (ps_fld (pv 0) (pv 2) rfl)
  (pss_cons (ps_fld (pv 0) (pv 3) rfl)
  (pss_cons (ps_fld (pv 0) (pv 4) rfl)
  (pss_cons (ps_fld (pv 0) (pv 5) rfl)
  (pss_cons (ps_fld (pv 0) (pv 6) rfl)
  (pss_one (ps_fld (pv 0) (pv 7) rfl)))))))), ?_⟩
    have v1 : ∀ {j : Nat} {v : V} {H : Hp}, (L2.start n_Page_init [V.ref x, r, s, so, i, f, h, .int n])[j]? = some (some v) → ∀ Q : VK, Q v H → tVar j (L2.start n_Page_init [V.ref x, r, s, so, i, f, h, .int n]) H Q := fun h Q q => ⟨_, h, q⟩
    refine sf_val (fs := []) (fs' := [("rights", r)]) (v1 (j := 1) rfl) G.cl_Page G.n_Page_rights rfl hx (by show 0 < 1000; decide) rfl (fun H1 b1 n1 e1 => ?_)
    dsimp only
    refine sf_val (fs := [("rights", r)]) (fs' := [("rights", r), ("shared", s)]) (v1 (j := 2) rfl) G.cl_Page G.n_Page_shared rfl e1 (by show 1 < 1000; decide) rfl (fun H2 b2 n2 e2 => ?_)
    dsimp only
    refine sf_val (fs := [("rights", r), ("shared", s)]) (fs' := [("rights", r), ("shared", s), ("source", so)]) (v1 (j := 3) rfl) G.cl_Page G.n_Page_source rfl e2 (by show 2 < 1000; decide) rfl (fun H3 b3 n3 e3 => ?_)
    dsimp only
    refine sf_val (fs := [("rights", r), ("shared", s), ("source", so)]) (fs' := [("rights", r), ("shared", s), ("source", so), ("index", i)]) (v1 (j := 4) rfl) G.cl_Page G.n_Page_index rfl e3 (by show 3 < 1000; decide) rfl (fun H4 b4 n4 e4 => ?_)
    dsimp only
    refine sf_val (fs := [("rights", r), ("shared", s), ("source", so), ("index", i)]) (fs' := [("rights", r), ("shared", s), ("source", so), ("index", i), ("flags", f)]) (v1 (j := 5) rfl) G.cl_Page G.n_Page_flags rfl e4 (by show 4 < 1000; decide) rfl (fun H5 b5 n5 e5 => ?_)
    dsimp only
    refine sf_val (fs := [("rights", r), ("shared", s), ("source", so), ("index", i), ("flags", f)]) (fs' := [("rights", r), ("shared", s), ("source", so), ("index", i), ("flags", f), ("held", h)]) (v1 (j := 6) rfl) G.cl_Page G.n_Page_held rfl e5 (by show 5 < 1000; decide) rfl (fun H6 b6 n6 e6 => ?_)
    dsimp only
    refine sf_val (fs := [("rights", r), ("shared", s), ("source", so), ("index", i), ("flags", f), ("held", h)]) (fs' := pageF r s so i f h (.int n)) (v1 (j := 7) rfl) G.cl_Page G.n_Page_stamp rfl e6 (by show 6 < 1000; decide) rfl (fun H7 b7 n7 e7 => ?_)
    exact k H7 (b1.trans (b2.trans (b3.trans (b4.trans (b5.trans (b6.trans b7)))))) ⟨(dx, n), e7⟩
theorem ok_has_object (G : Txt K mg A) : FnOk P w K mg base CX0 1 A.a_has_object A.fd_has_object p_has_object (fun vs H Q _ => ∃ (p : Addr) (g : Pg), vs = [.ref p] ∧ PgR A.c_Page H p g ∧ WfP g ∧ Q (.bl (isObj g.src)) H) := by
  refine G.f_has_object.ok sc_has_object (fun vs H Q E h => ?_) (fun cdv A' outer s H vs Q E hr h => ?_)
  · obtain ⟨p, g, rfl, _⟩ := h
    rfl
  · obtain ⟨p, g, rfl, ⟨dx, sv, fa, e, hs, hf⟩, wf, k⟩ := h
    refine ⟨_, (pss_one (ps_ret (pe_and (pe_fld (pv 0) rfl) (pe_one (pe_cmpR op_eq (pe_ix ix_tup (pe_fld (pv 0) rfl) pe_int (fun _ _ => rfl)) pe_str (nomark _)))))), ?_⟩
    refine ⟨_, rfl, p, _, _, _, _, rfl, e, G.cl_Page, G.n_Page_shared, rfl, _, rfl, ?_⟩
    refine iteB (fun c => ?_) (fun c => ?_)
    · cases es : g.src with
      | non => exact absurd es (wf.sh c)
      | file n =>
        rw [es] at hs
        obtain ⟨a, rfl, ha⟩ := hs
        refine ⟨_, rfl, p, _, _, _, _, rfl, e, G.cl_Page, G.n_Page_source, rfl, a, _, 0, _, rfl, rfl, SqT.of ha, rfl, rfl, ?_⟩
        rw [show isObj g.src = false by rw [es]; rfl] at k
        rw [show decide (V.str (Str.ofString "file") = V.str (Str.ofString "object")) = false by decide +kernel]
        exact k
      | obj j =>
        rw [es] at hs
        obtain ⟨a, rfl, ha⟩ := hs
        refine ⟨_, rfl, p, _, _, _, _, rfl, e, G.cl_Page, G.n_Page_source, rfl, a, _, 0, _, rfl, rfl, SqT.of ha, rfl, rfl, ?_⟩
        rw [show isObj g.src = true by rw [es]; rfl] at k
        rw [show decide (V.str (Str.ofString "object") = V.str (Str.ofString "object")) = true by decide +kernel]
        exact k
    · have z : isObj g.src = false := by
        cases es : g.src with
        | obj j => have := wf.ob j es; rw [c] at this; cases this
        | non => rfl
        | file n => rfl
      rw [z] at k
      exact k
theorem rights_at {H : Hp} (G : Txt K mg A) : SqT K H A.o_RIGHTS [.str "none", .str "r", .str "rw"] := by
  have h := G.r_RIGHTS
  unfold rightsIn at h
  split at h
  · rename_i dd its n sl hl
    split at h
    · rename_i x t1 y t2 z t3 he
      simp only [Bool.and_eq_true, beq_iff_eq] at h
      obtain ⟨⟨rfl, rfl⟩, rfl⟩ := h
      refine .inr ⟨_, its, n, hl, rfl, rfl, ?_, ?_⟩
      · have : its.size = 3 := by rw [← Array.length_toList, he]; rfl
        rw [this]; decide
      · rw [he]
        exact .cons ⟨_, rfl⟩ (.cons ⟨_, rfl⟩ (.cons ⟨_, rfl⟩ .nil))
    · cases h
  · cases h
def spWord (K : PySem.W.Frag) : Sp := fun vs H Q _ => ∃ (v : V) (a : Addr) (xs : List V), vs = [v, .ref a] ∧ AnyV H v ∧ SqT K H a xs ∧ xs.all flatV = true ∧ Q (.bl (isW xs v)) H
theorem ok_is_word (G : Txt K mg A) : FnOk P w K mg base CX0 1 A.a_is_word A.fd_is_word p_is_word (spWord K) := by
  refine G.f_is_word.ok sc_is_word (fun vs H Q E h => ?_) (fun cdv A' outer s H vs Q E hr h => ?_)
  · obtain ⟨v, a, xs, rfl, _⟩ := h
    rfl
  · obtain ⟨v, a, xs, rfl, hv, hx, fx, k⟩ := h
    refine ⟨_, (pss_one (ps_ret (pe_and (pe_callB call_isi (by rfl) G.b_isinstance (by decide +kernel) (pa_cons (pv 0) (pa_cons (pe_bltn (v := .ty "str") (u := .type "str") (by rfl) G.b_str (by decide +kernel) rfl) pa_nil))) (pe_one (pe_cmpR (r := rIn K false) op_in_seq (pv 0) (pv 1) (by rfl)))))), ?_⟩
    obtain ⟨t, h1, _, _, h4, _⟩ := hv.ty (K := K)
    refine ⟨_, rfl, v, .ty "str", .type t, .type "str", _, rfl, .ty "str", h1, h4, _, rfl, ?_⟩
    unfold isW at k
    refine iteB (fun c => ?_) (fun c => ?_)
    · rw [c] at k
      exact ⟨_, rfl, _, rfl, a, xs, rfl, .inr hx, (by cases v <;> first | rfl | cases c), fx, k⟩
    · rw [c] at k
      exact k
def spReqr (A : Adr) : Sp := fun vs H Q E => ∃ (b : Bool) (pt : Str), vs = [.bl b, .str pt] ∧ (b = true → Q .non H) ∧ (b = false → Rz A.c_NoPages "part" (.str pt) H E)
theorem ok_require (G : Txt K mg A) : FnOk P w K mg base (L2.CX P w) 3 A.a_require A.fd_require p_require (spReqr A) := by
  refine G.f_require.okX sc_require (fun vs H Q E h => ?_) (fun cdv A' outer s H vs Q E hr h => ?_)
  · obtain ⟨b, pt, rfl, _⟩ := h
    rfl
  · obtain ⟨b, pt, rfl, k1, k2⟩ := h
    refine ⟨_, (pss_one (ps_if (pt_not (pt_val (pv 0))) (pss_one (ps_raise rfl (takes_of rfl rfl rfl rfl) (pmk_oex G.x_NoPages G.xi_NoPages G.xt_NoPages (ok_NoPages_init G) (hr.mono (by decide)) G.bi_NoPages_init .nil pass0 rfl G.g_NoPages (pa_cons (pv 1) pa_nil)))) pss_nil)), ?_⟩
    cases b with
    | true => exact ⟨_, rfl, _, rfl, iteF (k1 rfl)⟩
    | false => exact ⟨_, rfl, _, rfl, iteT ⟨_, rfl, (by show 1 ≤ 1000; decide), fun a ha => xi_done G.x_NoPages G.xn_NoPages ha (k2 rfl)⟩⟩
theorem Txt.sysN (G : Txt K mg A) : Cls K A.c_System ∧ NoAttr K A.c_System "strict" ∧ NoAttr K A.c_System "steps_made" ∧ NoAttr K A.c_System "processes_made" ∧ NoAttr K A.c_System "objects_made" ∧ NoAttr K A.c_System "tables" ∧ NoAttr K A.c_System "objects" ∧ NoAttr K A.c_System "object_pages" ∧ NoAttr K A.c_System "files" :=
  ⟨G.cl_System, G.n_System_strict, G.n_System_steps_made, G.n_System_processes_made, G.n_System_objects_made, G.n_System_tables, G.n_System_objects, G.n_System_object_pages, G.n_System_files⟩
abbrev Sa (A : Adr) := SyA A.c_System A.c_Page A.c_History
abbrev Sr (A : Adr) := SyR A.c_System A.c_Page A.c_History
/-- the table of a living process; else NoProcess -/
def spTable (A : Adr) : Sp := fun vs H Q E => ∃ (x : Addr) (wh : Wh) (S : Sys) (τ : Tm) (cnt : Int → Int → Nat) (v : V), vs = [.ref x, v] ∧ Sa A H x wh S τ cnt ∧ AnyV H v ∧
  (∀ i d, v = .int i → TabOf H wh i d → Q (.ref d) H) ∧ ((∀ i, v = .int i → S.tabs i = none) → Rz A.c_NoProcess "process" v H E)
theorem ok_table_of (G : Txt K mg A) : FnOk P w K mg base (L2.CX P w) 3 A.a_table_of A.fd_table_of p_table_of (spTable A) := by
  refine G.f_table_of.okX sc_table_of (fun vs H Q E h => ?_) (fun cdv A' outer s H vs Q E hr h => ?_)
  · obtain ⟨x, wh, S, τ, cnt, v, rfl, _⟩ := h
    rfl
  · obtain ⟨x, wh, S, τ, cnt, v, rfl, hS, hv, k1, k2⟩ := h
    obtain ⟨cl, a3, a4, a5, a6, a7, a8, a9, a10⟩ := G.sysN
    refine ⟨_, (pss_cons (ps_if (PW.pt (pw_or (pt_not (pt_val (pe_call (ok_is_integer G) (hr.mono (by decide)) rfl G.g_is_integer G.k_is_integer G.bi_is_integer .nil pass0 (pa_cons (pv 1) (pa_cons pe_int (pa_cons (pe_fld (pv 0) rfl) pa_nil)))))) (pw_or1 (pt_cmp (pc_dnotin (hu_of hr) (pv 1) (pe_fld (pv 0) rfl)))))) (pss_one (ps_raise rfl (takes_of rfl rfl rfl rfl) (pmk_oex G.x_NoProcess G.xi_NoProcess G.xt_NoProcess (ok_NoProcess_init G) (hr.mono (by decide)) G.bi_NoProcess_init .nil pass0 rfl G.g_NoProcess (pa_cons (pv 1) pa_nil)))) pss_nil)
  (pss_one (ps_ret (pe_dget (hu_of hr) (pe_fld (pv 0) rfl) (pv 1) (fun _ _ => rfl))))), ?_⟩
    have h1 := hS.hx
    have fin : (∀ i, v = .int i → S.tabs i = none) → tMkO A.c_NoProcess (spXi K "process") [] (tCons (tVar 1) tNil) (L2.start n_table_of [V.ref x, v]) H (fun cls d H' => E cls d H') := fun hn => by
      refine ⟨_, rfl, (by show 1 ≤ 1000; decide), fun a ha => xi_done G.x_NoProcess G.xn_NoProcess ha (k2 hn)⟩
    refine ⟨_, rfl, _, rfl, x, _, _, _, _, rfl, h1, cl, a5, rfl, v, 1, S.p, rfl, hv, _, rfl, ?_⟩
    cases ei : inR 1 S.p v with
    | false =>
      refine iteT (iteT (fin fun i e => ?_))
      subst e
      cases et : S.tabs i with
      | none => rfl
      | some P =>
        obtain ⟨d, hd⟩ := hS.living et
        have := (hS.tabE hd et).1
        rw [inR_of this.1 this.2] at ei
        cases ei
    | true =>
      refine iteF ?_
      obtain ⟨i, rfl, _⟩ := inR_int ei
      cases et : S.tabs i with
      | some P =>
        obtain ⟨d, hd⟩ := hS.living et
        obtain ⟨kvs, h2, hv2⟩ := id hd
        refine ⟨_, rfl, _, rfl, x, _, _, _, _, rfl, h1, cl, a7, rfl, wh.t, _, rfl, DGet.k (k := Sum.inl i) h2, _, rfl, ?_⟩
        rw [hv2]
        refine iteF ?_
        exact ⟨_, rfl, x, _, _, _, _, rfl, h1, cl, a7, rfl, _, rfl, wh.t, _, rfl, (by rw [← hv2]; exact DGet.k (k := Sum.inl i) h2), k1 i d rfl hd⟩
      | none =>
        obtain ⟨kvs, h2, hv2⟩ := hS.notIn et
        refine ⟨_, rfl, _, rfl, x, _, _, _, _, rfl, h1, cl, a7, rfl, wh.t, _, rfl, DGet.k (k := Sum.inl i) h2, _, rfl, ?_⟩
        rw [hv2]
        exact iteT (fin fun j e => by rw [← V.int.inj e]; exact et)
def spNums (A : Adr) : Sp := fun vs H Q E => ∃ (fv cv : V), vs = [fv, cv] ∧ AnyV H fv ∧ AnyV H cv ∧ (inR 0 511 fv = false → Rz A.c_NoPages "part" (.str "first") H E) ∧
  ∀ f, fv = .int f → 0 ≤ f → f ≤ 511 → (inR 1 (512 - f) cv = false → Rz A.c_NoPages "part" (.str "count") H E) ∧
    ∀ c, cv = .int c → 1 ≤ c → c ≤ 512 - f → ∀ q H', H' = upd H q (.lst (rgV f (f + c))) → H q = none → Q (.ref q) H'
theorem ok_numbers_of (G : Txt K mg A) : FnOk P w K mg base (L2.CX P w) 4 A.a_numbers_of A.fd_numbers_of p_numbers_of (spNums A) := by
  refine G.f_numbers_of.okX sc_numbers_of (fun vs H Q E h => ?_) (fun cdv A' outer s H vs Q E hr h => ?_)
  · obtain ⟨fv, cv, rfl, _⟩ := h
    rfl
  · obtain ⟨fv, cv, rfl, hf, hc, k1, k2⟩ := h
    refine ⟨_, (pss_cons (ps_expr (pe_call (ok_require G) (hr.mono (by decide)) rfl G.g_require G.k_require G.bi_require .nil (passes_call (takes_of rfl rfl rfl rfl) (fun _ _ _ _ z => z)) (pa_cons (pe_call (ok_is_integer G) (hr.mono (by decide)) rfl G.g_is_integer G.k_is_integer G.bi_is_integer .nil pass0 (pa_cons (pv 0) (pa_cons pe_int (pa_cons (pe_op op_sub (pe_glob (v := .int 512) rfl G.g_PAGES ⟨_, rfl⟩) pe_int) pa_nil)))) (pa_cons pe_str pa_nil))))
  (pss_cons (ps_expr (pe_call (ok_require G) (hr.mono (by decide)) rfl G.g_require G.k_require G.bi_require .nil (passes_call (takes_of rfl rfl rfl rfl) (fun _ _ _ _ z => z)) (pa_cons (pe_call (ok_is_integer G) (hr.mono (by decide)) rfl G.g_is_integer G.k_is_integer G.bi_is_integer .nil pass0 (pa_cons (pv 1) (pa_cons pe_int (pa_cons (pe_op op_sub (pe_glob (v := .int 512) rfl G.g_PAGES ⟨_, rfl⟩) (pv 0)) pa_nil)))) (pa_cons pe_str pa_nil))))
  (pss_one (ps_ret (pe_listRg rfl rfl G.b_list (prg_2 rfl G.b_range (pv 0) (pe_op op_add (pv 0) (pv 1)))))))), ?_⟩
    refine ⟨_, rfl, _, _, rfl, rfl, fv, 0, 512 - 1, rfl, hf, _, _, rfl, fun z => ?_, k1⟩
    obtain ⟨f, rfl, f0, f1⟩ := inR_int z
    obtain ⟨k3, k4⟩ := k2 f rfl f0 (by omega)
    refine ⟨_, rfl, _, rfl, _, _, rfl, rfl, cv, 1, 512 - f, rfl, hc, _, _, rfl, fun z => ?_, k3⟩
    obtain ⟨c, rfl, c0, c1⟩ := inR_int z
    exact ⟨_, rfl, _, rfl, _, rfl, _, _, rfl, rfl, _, _, rfl, rfl, RgOk.of_le f0 (by omega) (by omega) (by omega), fun q hq => k4 c rfl c0 (by omega) q _ rfl hq⟩
theorem rg_at {f c : Int} {j : Nat} (hj : j < (rgV f (f + c)).length) {y : V} (hy : (rgV f (f + c))[j]? = some y) : y = .int (f + (j : Nat)) := by
  unfold rgV at hy
  rw [rgV_length] at hj
  rw [List.getElem?_map, List.getElem?_range hj] at hy
  exact (Option.some.inj hy).symm
theorem rg_len {f c : Int} : (rgV f (f + c)).length = c.toNat := by rw [rgV_length]; congr 1; omega
/-- all of a row of pages are mapped, or the first that is not -/
def spMapd (A : Adr) : Sp := fun vs H Q E => ∃ (d q : Addr) (kvs : List (Key × V)) (p : Int → Bool) (f c : Int), vs = [.ref d, .ref q] ∧ H d = some (.dK kvs) ∧ (∀ i : Int, (valV kvs (Sum.inl i)).isSome = p i) ∧ H q = some (.lst (rgV f (f + c))) ∧
  ((∀ j, f ≤ j → j < f + c → p j = true) → Q .non H) ∧ ∀ n, f ≤ n → n < f + c → p n = false → (∀ j, f ≤ j → j < n → p j = true) → Rz A.c_NotMapped "page" (.int n) H E
theorem ok_require_mapped (G : Txt K mg A) : FnOk P w K mg base (L2.CX P w) 3 A.a_require_mapped A.fd_require_mapped p_require_mapped (spMapd A) := by
  refine G.f_require_mapped.okX sc_require_mapped (fun vs H Q E h => ?_) (fun cdv A' outer s H vs Q E hr h => ?_)
  · obtain ⟨d, q, kvs, p, f, c, rfl, _⟩ := h
    rfl
  · obtain ⟨d, q, kvs, p, f, c, rfl, hd, hp, hq, k1, k2⟩ := h
    refine ⟨_, (pss_one (ps_for (passes_of rfl) rfl (pi_list (pv 1)) (pg_name (i := 2) sc_require_mapped.nd rfl (Or.inl rfl)) (pss_one (ps_if (pt_cmp (pc_dnotin (hu_of hr) (pv 2) (pv 0))) (pss_one (ps_raise rfl (takes_of rfl rfl rfl rfl) (pmk_oex G.x_NotMapped G.xi_NotMapped G.xt_NotMapped (ok_NotMapped_init G) (hr.mono (by decide)) G.bi_NotMapped_init .nil pass0 rfl G.g_NotMapped (pa_cons (pv 2) pa_nil)))) pss_nil)))), ?_⟩
    refine ⟨_, rfl, q, rfl, ⟨_, SqL.of hq⟩, for_list (K := K) (a := q) (xs := rgV f (f + c)) (fun j σ Z => Z = H ∧ (∃ c2, σ = [some (.ref d), some (.ref q), c2]) ∧ ∀ i, f ≤ i → i < f + (j : Nat) → p i = true)
      ⟨rfl, ⟨_, rfl⟩, fun i a b => by simp only [Int.natCast_zero] at b; omega⟩ (fun j σ Z _ z => by rw [z.1]; exact SqL.of hq) ?_ ?_⟩
    · rintro j y σ Z hy ⟨rfl, ⟨c2, rfl⟩, hb⟩
      have hj : j < (rgV f (f + c)).length := (List.getElem?_eq_some_iff.mp hy).1
      have ey := rg_at hj hy
      subst ey
      rw [rg_len] at hj
      refine ⟨_, rfl, _, rfl, d, _, rfl, DGet.k (k := Sum.inl (f + (j : Nat))) hd, _, rfl, ?_⟩
      rw [hp]
      refine iteB (fun e => ?_) (fun e => ?_)
      · have e' : p (f + (j : Nat)) = false := by simpa using e
        exact ⟨_, rfl, (by show 1 ≤ 1000; decide), fun a ha => xi_done G.x_NotMapped G.xn_NotMapped ha (k2 _ (by omega) (by omega) e' fun i a b => hb i a b)⟩
      · have e' : p (f + (j : Nat)) = true := by simpa using e
        refine ⟨rfl, ⟨_, rfl⟩, fun i a b => ?_⟩
        by_cases z : i = f + (j : Nat)
        · rw [z]; exact e'
        · exact hb i a (by omega)
    · rintro σ Z ⟨rfl, ⟨c2, rfl⟩, hb⟩
      rw [rg_len] at hb
      exact k1 fun i a b => hb i a (by omega)
/-- nothing is locked: a new list of nothing -/
def spAddL (A : Adr) : Sp := fun vs H Q _ => ∃ (h f dh ro lk : Addr) (y : Nat → V), vs = [.ref h, .ref f] ∧ H h = some (.ins A.c_History dh (hisF ro lk y)) ∧ H ro = some (.lst []) ∧ H f = some (.lst []) ∧ Q .non H
theorem ok_add_locked (G : Txt K mg A) : FnOk P w K mg base CX0 1 A.a_add_locked A.fd_add_locked p_add_locked (spAddL A) := by
  refine G.f_add_locked.ok sc_add_locked (fun vs H Q E h => ?_) (fun cdv A' outer s H vs Q E hr h => ?_)
  · obtain ⟨h, f, dh, ro, lk, y, rfl, _⟩ := h
    rfl
  · obtain ⟨h, f, dh, ro, lk, y, rfl, hh, hr0, hf, k⟩ := h
    refine ⟨_, (pss_cons (ps_set (i := 2) sc_add_locked.nd rfl (Or.inl rfl) (pe_callB call_len_seq (by rfl) G.b_len (by decide +kernel) (pa_cons (pv 1) pa_nil)))
  (pss_one (ps_if (PW.pt (pw_and (pt_cmpR op_lt (pv 2) (pe_callB call_len_seq (by rfl) G.b_len (by decide +kernel) (pa_cons (pe_fld (pv 0) rfl) pa_nil)) (nomark _)) (pw_and (pt_cmpR op_notN (pe_ix ix_list (pe_fld (pv 0) rfl) (pv 2) (fun _ _ => rfl)) pe_non (nomark _)) (pw_and1 (pt_cmpR op_gt (pe_fld (pe_ix ix_list (pe_fld (pv 0) rfl) (pv 2) (fun _ _ => rfl)) rfl) pe_int (nomark _)))))) (pss_cons ps_never
  (pss_one ps_never)) pss_nil))), ?_⟩
    refine ⟨_, rfl, f, [], rfl, .inl (SqL.of hf), ?_⟩
    refine ⟨_, rfl, _, rfl, h, _, _, _, _, rfl, hh, G.cl_History, G.n_History_row, rfl, ro, [], rfl, .inl (SqL.of hr0), ?_⟩
    exact ⟨_, _, rfl, rfl, _, rfl, iteF (iteF k)⟩
def spArr (A : Adr) : Sp := fun vs H Q _ => ∃ (h dh ro lk : Addr) (y : Nat → V), vs = [.ref h] ∧ H h = some (.ins A.c_History dh (hisF ro lk y)) ∧ H ro = some (.lst []) ∧ H lk = some (.lst []) ∧
  ∀ H1 l, Same H H1 → H l = none → H1 l = some (.lst []) → Q .non (upd H1 h (.ins A.c_History dh (hisF ro l y)))
theorem ok_arrange_locked (G : Txt K mg A) : FnOk P w K mg base CX0 2 A.a_arrange_locked A.fd_arrange_locked p_arrange_locked (spArr A) := by
  refine G.f_arrange_locked.ok sc_arrange_locked (fun vs H Q E h => ?_) (fun cdv A' outer s H vs Q E hr h => ?_)
  · obtain ⟨h, dh, ro, lk, y, rfl, _⟩ := h
    rfl
  · obtain ⟨h, dh, ro, lk, y, rfl, hh, hr0, hl, k⟩ := h
    refine ⟨_, (pss_cons (ps_set (i := 1) sc_arrange_locked.nd rfl (Or.inl rfl) (pe_callTy call_list_of (by rfl) G.b_list (by decide +kernel) (pa_cons (pe_fld (pv 0) rfl) pa_nil)))
  (pss_cons (ps_expr (pe_call (ok_add_locked G) (hr.mono (by decide)) rfl G.g_add_locked G.k_add_locked G.bi_add_locked .nil pass0 (pa_cons (pv 0) (pa_cons (pv 1) pa_nil))))
  (pss_cons (ps_setLc (i := 2) (own := [("item", 3)]) (g := gName 3) rfl sc_arrange_locked.nd rfl rfl (sw_true rfl rfl rfl (by decide +kernel)) (pi_list (pv 1)) (blkOk_by (own := [("item", 3)]) (N := n_arrange_locked) (sc := defScope s_arrange_locked) (by decide +kernel)) (fun _ _ _ _ _ => pg_name (i := 3) sc_arrange_locked.nd rfl (Or.inl rfl)) (fun _ _ _ _ _ => pts_nev) (fun _ _ _ _ _ => (pv 3)))
  (pss_cons (ps_if (pt_cmpR op_lt (pe_callB call_len_seq (by rfl) G.b_len (by decide +kernel) (pa_cons (pv 2) pa_nil)) (pe_callB call_len_seq (by rfl) G.b_len (by decide +kernel) (pa_cons (pv 1) pa_nil)) (nomark _)) (pss_one ps_never) pss_nil)
  (pss_one (ps_fld (pv 0) (pv 2) rfl)))))), ?_⟩
    refine ⟨_, rfl, h, _, dh, _, _, rfl, hh, G.cl_History, G.n_History_locked, rfl, lk, [], rfl, .inl (SqL.of hl), fun f hf => ?_⟩
    have s1 := Same.new (o := .lst []) hf
    refine ⟨_, rfl, _, rfl, h, f, dh, ro, lk, y, rfl, s1 _ _ hh, s1 _ _ hr0, upd_same, ?_⟩
    refine ⟨_, rfl, f, rfl, ⟨_, SqL.of upd_same⟩, fun D hD => ?_⟩
    have s2 := s1.trans (Same.new (o := .lst []) hD)
    refine lc_it (tt := fun _ _ _ => False) (te := tVar 3) (walk_list (K := K) (a := f) (xs := [])) (fun j Z => Z = upd (upd H f (.lst [])) D (.lst [])) rfl (fun j Z _ z => by rw [z]; exact SqL.of (Same.new hD _ _ upd_same)) ?_ ?_
    · rintro j y Z0 Z hj _ ⟨rfl, hy⟩
      cases hy
    · rintro Z rfl
      obtain ⟨nDf, hD0⟩ := upd_none hD
      refine ⟨_, rfl, D, [], rfl, .inl (SqL.of upd_same), ?_⟩
      refine ⟨_, rfl, f, [], rfl, .inl (SqL.of (Same.new hD _ _ upd_same)), ?_⟩
      refine ⟨_, _, rfl, rfl, _, rfl, iteF ?_⟩
      refine ⟨_, rfl, _, rfl, h, _, _, _, rfl, s2 _ _ hh, G.cl_History, G.n_History_locked, (by show 14 < 1000; decide), k _ D s2 hD0 upd_same⟩
/-- a step is counted -/
def spEnd (A : Adr) : Sp := fun vs H Q _ => ∃ (x : Addr) (wh : Wh) (S : Sys) (τ : Tm), vs = [.ref x] ∧ Sr A H x wh S τ ∧ ∀ H' τ', Go τ H τ' H' → Sr A H' x wh { S with n := S.n + 1 } τ' → Q .non H'
theorem ok_end_step (G : Txt K mg A) : FnOk P w K mg base CX0 3 A.a_end_step A.fd_end_step p_end_step (spEnd A) := by
  refine G.f_end_step.ok sc_end_step (fun vs H Q E h => ?_) (fun cdv A' outer s H vs Q E hr h => ?_)
  · obtain ⟨x, wh, S, τ, rfl, _⟩ := h
    rfl
  · obtain ⟨x, wh, S, τ, rfl, hS, k⟩ := h
    refine ⟨_, (pss_cons (ps_expr (pe_call (ok_arrange_locked G) (hr.mono (by decide)) rfl G.g_arrange_locked G.k_arrange_locked G.bi_arrange_locked .nil pass0 (pa_cons (pe_fld (pv 0) rfl) pa_nil)))
  (pss_one (ps_fldaug (pv 0) pe_int in_add))), ?_⟩
    obtain ⟨dh, lk, y, e1, e2, e3⟩ := hS.his.at_
    refine ⟨_, rfl, x, _, _, _, _, rfl, hS.hx, G.cl_System, G.n_System_history, rfl, wh.hi, dh, wh.ro, lk, y, rfl, e1, hS.his.ro, e2, fun H1 l s1 hl0 hl1 => ?_⟩
    have S1 := hS.same s1
    have S2 := S1.putHis (dh' := dh) (lk' := l) (y' := y) (s1 _ _ e1) hl1 (hS.fresh hl0)
    refine ⟨_, rfl, x, _, _, _, _, rfl, S2.hx, G.cl_System, G.n_System_steps_made, rfl, S.n, 1, rfl, rfl, _, _, S2.hx, (by show 18 < 1000; decide), k _ (setTag τ l .lks) ?_ ?_⟩
    · have g1 := hS.goHis (dh' := dh) (y' := y) s1 e1 hl0 hl1
      exact g1.trans (Go.upd (by rw [S2.tx]; simp) S2.hx)
    · have e := cntS_tabs (S := S) (S' := { S with n := S.n + 1 }) rfl
      show SyA _ _ _ _ _ _ _ _ (cntS { S with n := S.n + 1 })
      rw [← e]
      exact S2.put (n' := S.n + 1) (o' := S.o) (Int.le_refl _) hS.bo.2
def spThis (A : Adr) : Sp := fun vs H Q _ => ∃ (x : Addr) (wh : Wh) (S : Sys) (τ : Tm) (cnt : Int → Int → Nat), vs = [.ref x] ∧ Sa A H x wh S τ cnt ∧ Q (.int (S.n + 1)) H
theorem ok_this_step (G : Txt K mg A) : FnOk P w K mg base CX0 1 A.a_this_step A.fd_this_step p_this_step (spThis A) := by
  refine G.f_this_step.ok sc_this_step (fun vs H Q E h => ?_) (fun cdv A' outer s H vs Q E hr h => ?_)
  · obtain ⟨x, wh, S, τ, cnt, rfl, _⟩ := h
    rfl
  · obtain ⟨x, wh, S, τ, cnt, rfl, hS, k⟩ := h
    refine ⟨_, (pss_one (ps_ret (pe_op op_add (pe_fld (pv 0) rfl) pe_int))), ?_⟩
    exact ⟨_, rfl, x, _, _, _, _, rfl, hS.hx, G.cl_System, G.n_System_steps_made, rfl, S.n, 1, rfl, rfl, k⟩
end
end My
set_option Elab.async false
set_option linter.all false
set_option maxRecDepth 100000
set_option maxHeartbeats 4000000
namespace My
open PySem L2
local macro_rules | `(tactic| walk_at "ds") => `(tactic| dsimp only [tSeq, tIfS, tTest, tB, tAnd, tOr, tNot, tAndV, tOrV, tNotV, tIf, tIsN, tNotN, tOp, tUn, tChain, rI, rI0, rU, tC, tCB, tCons, tNil, tAsg, gName, gSub, tRet, tRetN, tNext, tDrop, tLst, tTup, rIxL, rIxT, rSetL, tVar, tFld, tCall, tDGet, tDIn, tDNotIn, tNever, L2.start, List.map, List.replicate, List.length, List.append, List.cons_append, List.nil_append, List.set, Nat.sub])
local macro_rules | `(tactic| walk_at "hp") => `(tactic| first | assumption | exact upd_same | (refine Eq.trans (upd_ne (by first | assumption | (apply Ne.symm; assumption))) ?_; walk_at "hp"))
local macro_rules | `(tactic| walk_at "sd") => `(tactic| first
  | (show (_ : Int) ≠ 0; omega)
  | (refine (show CDivN _ _ from ⟨?_, ?_⟩) <;> omega)
  | (show CPow _ _; refine ⟨by omega, by omega, by omega⟩)
  | (show CMul _ _; exact Or.inl ⟨by omega, by omega⟩)
  | (show CMul _ _; exact Or.inr ⟨by omega, by omega⟩))
local macro_rules | `(tactic| walk_at "st") => `(tactic| first
  | refine ⟨_, rfl, ?_⟩
  | refine ⟨_, _, rfl, rfl, (by walk_at "sd"), ?_⟩
  | refine ⟨_, _, rfl, rfl, ?_⟩
  | refine ⟨_, _, _, _, rfl, rfl, SqL.of (by walk_at "hp"), rfl, ?_⟩
  | refine ⟨_, _, _, _, rfl, rfl, (by walk_at "hp"), rfl, ?_⟩
  | refine .inl ⟨_, rfl, ?_⟩
  | refine ⟨_, _, _, _, _, rfl, (by walk_at "hp"), (by assumption), (by assumption), rfl, ?_⟩
  | refine ⟨_, _, rfl, .inl (SqL.of (by walk_at "hp")), ?_⟩)
local macro_rules | `(tactic| walk_at "go") => `(tactic| repeat (first | walk_at "st" | (walk_at "ds"; walk_at "st")))
local macro_rules | `(tactic| walk_at "ni") => `(tactic| dsimp (config := { proj := false }) only [tNil, List.cons_append, List.nil_append])
section
variable {P : Program} {w : World} {K : PySem.W.Frag} {mg : Str → Option Value} {base : Heap} {A : Adr}
def spCount (A : Adr) : Sp := fun vs H Q _ => ∃ (x : Addr) (wh : Wh) (S : Sys) (τ : Tm) (cnt : Int → Int → Nat) (p : Addr) (g : Pg), vs = [.ref x, .ref p] ∧ Sa A H x wh S τ cnt ∧ PgR A.c_Page H p g ∧ WfP g ∧ (∀ k, g.src = .obj k → 1 ≤ k ∧ k ≤ S.o) ∧
  ∀ H' τ', Go τ H τ' H' → H' wh.t = H wh.t → Sa A H' x wh S τ' (incC cnt g) → Q .non H'
theorem ok_count_page (G : Txt K mg A) : FnOk P w K mg base CX0 2 A.a_count_page A.fd_count_page p_count_page (spCount A) := by
  refine G.f_count_page.ok sc_count_page (fun vs H Q E h => ?_) (fun cdv A' outer s H vs Q E hr h => ?_)
  · obtain ⟨x, wh, S, τ, cnt, p, g, rfl, _⟩ := h
    rfl
  · obtain ⟨x, wh, S, τ, cnt, p, g, rfl, hS, hp, wf, ob, k⟩ := h
    obtain ⟨dx, sv, fa, e, hs, hf⟩ := id hp
    obtain ⟨cl, a3, a4, a5, a6, a7, a8, a9, a10⟩ := G.sysN
    refine ⟨_, (pss_cons (ps_set (i := 2) sc_count_page.nd rfl (Or.inl rfl) (pe_fld (pv 1) rfl))
  (pss_one (ps_if (pt_cmpR op_notN (pv 2) pe_non (nomark _)) (pss_cons ps_never
  (pss_one ps_never)) (pss_one (ps_if (pt_val (pe_call (ok_has_object G) (hr.mono (by decide)) rfl G.g_has_object G.k_has_object G.bi_has_object .nil pass0 (pa_cons (pv 1) pa_nil))) (pss_cons (ps_set (i := 3) sc_count_page.nd rfl (Or.inl rfl) (pe_dsetd (pe_fld (pv 0) rfl) (pe_ix ix_tup (pe_fld (pv 1) rfl) pe_int (fun _ _ => rfl)) pe_dnewK ⟨rfl, rfl, rfl, rfl⟩))
  (pss_one (ps_dput (hu_of hr) (pv 3) (pe_fld (pv 1) rfl) (pe_op op_add (pe_dget2 (hu_of hr) (pv 3) (pe_fld (pv 1) rfl) pe_int ⟨rfl, rfl, rfl, rfl⟩) pe_int) rfl))) pss_nil))))), ?_⟩
    refine ⟨_, rfl, p, _, _, _, _, rfl, e, G.cl_Page, G.n_Page_held, rfl, _, rfl, rfl, _, rfl, iteF ?_⟩
    refine ⟨_, rfl, p, g, rfl, hp, wf, _, rfl, iteB (fun c => ?_) (fun c => ?_)⟩
    · obtain ⟨j, ej⟩ : ∃ j, g.src = .obj j := by
        cases es : g.src with
        | obj j => exact ⟨j, rfl⟩
        | non => rw [es] at c; cases c
        | file n => rw [es] at c; cases c
      obtain ⟨i, ei, i0, i1⟩ := wf.ix (by rw [ej]; simp)
      obtain ⟨b0, b1⟩ := ob j ej
      have hsh := wf.ob j ej
      rw [ej] at hs
      obtain ⟨a, rfl, ha⟩ := hs
      rw [ei] at e
      obtain ⟨okvs, fo, ho, _⟩ := hS.obs
      have inc : ∀ k' i', incC cnt g k' i' = setC cnt j (fun i' => if i' = i then cnt j i + 1 else cnt j i') k' i' := fun k' i' => by
        show cnt k' i' + cntO k' i' (some g) = (if k' = j then (fun i' => if i' = i then cnt j i + 1 else cnt j i') else cnt k') i'
        rw [cntO_is hsh ej ei]
        by_cases z : k' = j
        · rw [if_pos z, z]
          by_cases y : i' = i
          · rw [if_pos ⟨rfl, y⟩]
            simp only [y, if_pos]
          · rw [if_neg (fun q => y q.2)]
            simp only [if_neg y]
            omega
        · rw [if_neg z, if_neg (fun q => z q.1)]
          omega
      refine ⟨_, rfl, x, _, _, _, _, rfl, hS.hx, cl, a8, rfl, wh.ob, rfl, .inl ⟨okvs, .inl ho⟩, ?_⟩
      refine ⟨_, rfl, p, _, _, _, _, rfl, e, G.cl_Page, G.n_Page_source, rfl, a, _, 1, _, rfl, rfl, SqT.of ha, rfl, fun q hq => ?_⟩
      have s1 := Same.new (o := .dK []) hq
      have nq : ∀ {b : Addr} {o : HO}, H b = some o → b ≠ q := fun e => ne_of_none e hq
      refine ⟨okvs, Sum.inl j, s1 _ _ ho, rfl, Nat.lt_of_le_of_lt (hS.obLen ho) (by decide), fun v hv => ?_, fun hn => ?_⟩
      · -- the object is known
        obtain ⟨u, eu⟩ : ∃ u, v = .ref u := by
          rcases hS.obv ho j with z | ⟨u, z⟩
          · rw [hv] at z; cases z
          · rw [hv] at z; exact ⟨u, Option.some.inj z⟩
        subst eu
        obtain ⟨tu, ur, ne, _⟩ := hS.usr ho hv
        have ul := ur
        obtain ⟨ukvs, f, hu, di, hf1, hf2⟩ := ur
        have len := ul.len hu
        have hget : (valV ukvs (Sum.inl i)).getD (.int 0) = .int (cnt j i : Nat) := by
          rw [di.val, hf1]
          by_cases z : cnt j i = 0
          · rw [if_pos z, z]; rfl
          · rw [if_neg z]; rfl
        refine ⟨_, rfl, u, rfl, .inl ⟨ukvs, .inl (s1 _ _ hu)⟩, ?_⟩
        refine ⟨_, rfl, p, _, _, _, _, rfl, s1 _ _ e, G.cl_Page, G.n_Page_index, rfl, _, DGet.k (k := Sum.inl i) (s1 _ _ hu), _, 1, hget, rfl, ?_⟩
        refine ⟨_, rfl, _, rfl, p, _, _, _, _, rfl, s1 _ _ e, G.cl_Page, G.n_Page_index, rfl, u, _, rfl, DPut.k (k := Sum.inl i) (s1 _ _ hu) (Nat.lt_of_le_of_lt len (by decide)), ?_⟩
        have go : Go τ H τ (upd (upd H q (.dK [])) u (.dK (putK ukvs (Sum.inl i) (.int ((cnt j i : Nat) + 1))))) := (Go.same s1).trans (Go.upd (by rw [tu]; simp) (s1 _ _ hu))
        refine k _ τ go (by rw [upd_ne (ne_tag hS.tt tu (by simp)), upd_ne (ne_of_none hS.tabs.choose_spec.choose_spec.1 hq)]) (SyA.cong ((hS.same s1).putUsr (s1 _ _ ho) hv (c' := fun i' => if i' = i then cnt j i + 1 else cnt j i') ⟨_, _, upd_same, di.put i _, fun i' => ?_, fun i' h' => ?_⟩ ⟨i, by simp⟩) fun k' i' => (inc k' i').symm)
        · by_cases z : i' = i
          · simp only [z, if_pos]
            rw [if_neg (by omega)]
            rfl
          · simp only [if_neg z]
            exact hf1 i'
        · by_cases z : i' = i
          · rw [z]; exact ⟨i0, i1⟩
          · simp only [if_neg z] at h'
            exact hf2 i' h'
      · -- it is not
        have zero := hS.noUsr ho hn
        have nqo : wh.ob ≠ q := nq ho
        have e1 : ∀ {b : Addr} {o : HO}, H b = some o → b ≠ wh.ob → (upd (upd H q (.dK [])) wh.ob (.dK (putK okvs (Sum.inl j) (.ref q)))) b = some o := fun h n => by rw [upd_ne n]; exact s1 _ _ h
        have npo : p ≠ wh.ob := ne_of e ho (by intro z; cases z)
        have hq1 : (upd (upd H q (.dK [])) wh.ob (.dK (putK okvs (Sum.inl j) (.ref q)))) q = some (.dK []) := by rw [upd_ne (Ne.symm nqo), upd_same]
        refine ⟨_, rfl, q, rfl, .inl ⟨[], .inl hq1⟩, ?_⟩
        refine ⟨_, rfl, p, _, _, _, _, rfl, e1 e npo, G.cl_Page, G.n_Page_index, rfl, _, DGet.k (k := Sum.inl i) hq1, 0, 1, rfl, rfl, ?_⟩
        refine ⟨_, rfl, _, rfl, p, _, _, _, _, rfl, e1 e npo, G.cl_Page, G.n_Page_index, rfl, q, _, rfl, DPut.k (k := Sum.inl i) hq1 (by show 0 < sizeLine; decide), ?_⟩
        have eH : upd (upd (upd H q (.dK [])) wh.ob (.dK (putK okvs (Sum.inl j) (.ref q)))) q (.dK (putK [] (Sum.inl i) (.int (0 + 1)))) = upd (upd H q (.dK (putK [] (Sum.inl i) (.int (0 + 1))))) wh.ob (.dK (putK okvs (Sum.inl j) (.ref q))) := by
          rw [upd_comm nqo, upd_upd]
        rw [eH]
        have s2 := Same.new (o := .dK (putK [] (Sum.inl i) (.int (0 + 1)))) hq
        have tq := hS.fresh hq
        refine k _ _ ⟨fun b o n eb => ?_, fun b => ?_, fun b xs eb => by rw [upd_ne (fun z => by rw [z, ho] at eb; cases eb)]; exact s2 _ _ eb⟩ (by rw [upd_ne (ne_tag hS.tt hS.to (by simp)), upd_ne (ne_of_none hS.tabs.choose_spec.choose_spec.1 hq)]) (SyA.cong ((hS.same s2).newUsr (s2 _ _ ho) hn ⟨b0, b1⟩ tq (c' := fun i' => if i' = i then cnt j i + 1 else cnt j i') ⟨_, _, upd_same, DI.nil.put i _, fun i' => ?_, fun i' h' => ?_⟩ ⟨i, by simp⟩) fun k' i' => (inc k' i').symm)
        · rw [upd_ne (fun z => by rw [z, hS.to] at n; cases n)]
          exact s2 _ _ eb
        · by_cases z : b = q
          · rw [z]; exact .inr ⟨tq, hq⟩
          · exact .inl (setTag_ne z)
        · by_cases z : i' = i
          · simp only [z, if_pos]
            rw [if_neg (by omega), zero i]
            rfl
          · simp only [if_neg z]
            rw [if_pos (zero i')]
        · by_cases z : i' = i
          · rw [z]; exact ⟨i0, i1⟩
          · simp only [if_neg z] at h'
            exact absurd (zero i') h'
    · refine k H τ (Go.refl τ H) rfl (hS.cong fun k' i' => ?_)
      show cnt k' i' = cnt k' i' + cntO k' i' (some g)
      rw [cntO_no fun j ej => by rw [ej] at c; cases c]
      omega
def spDisU (A : Adr) : Sp := fun vs H Q _ => ∃ (x : Addr) (wh : Wh) (S : Sys) (τ : Tm) (cnt : Int → Int → Nat) (j i : Int), vs = [.ref x, .int j, .int i] ∧ Sa A H x wh S τ cnt ∧ 0 < cnt j i ∧
  ∀ H', Go τ H τ H' → H' wh.t = H wh.t → Sa A H' x wh S τ (setC cnt j fun i' => if i' = i then cnt j i - 1 else cnt j i') → Q .non H'
theorem ok_discount_user (G : Txt K mg A) : FnOk P w K mg base CX0 1 A.a_discount_user A.fd_discount_user p_discount_user (spDisU A) := by
  refine G.f_discount_user.ok sc_discount_user (fun vs H Q E h => ?_) (fun cdv A' outer s H vs Q E hr h => ?_)
  · obtain ⟨x, wh, S, τ, cnt, j, i, rfl, _⟩ := h
    rfl
  · obtain ⟨x, wh, S, τ, cnt, j, i, rfl, hS, pos, k⟩ := h
    obtain ⟨cl, a3, a4, a5, a6, a7, a8, a9, a10⟩ := G.sysN
    refine ⟨_, (pss_cons (ps_set (i := 3) sc_discount_user.nd rfl (Or.inl rfl) (pe_dget (hu_of hr) (pe_fld (pv 0) rfl) (pv 1) (fun _ _ => rfl)))
  (pss_cons (ps_daug (hu_of hr) (pv 3) (pv 2) pe_int in_sub (fun _ _ _ => rfl))
  (pss_cons (ps_if (pt_cmpR op_gt (pe_dget (hu_of hr) (pv 3) (pv 2) (fun _ _ => rfl)) pe_int (nomark _)) (pss_one ps_retN) pss_nil)
  (pss_cons (ps_ddel (pv 3) (pv 2))
  (pss_cons (ps_if (pt_cmp (pc_din (hu_of hr) (pe_tup (pa_cons (pv 1) (pa_cons (pv 2) pa_nil))) (pe_fld (pv 0) rfl))) (pss_cons ps_never
  (pss_one ps_never)) pss_nil)
  (pss_one (ps_if (pt_cmpR op_eq (pe_callB call_lenD (by rfl) G.b_len (by decide +kernel) (pa_cons (pv 3) pa_nil)) pe_int (nomark _)) (pss_one (ps_ddel (pe_fld (pv 0) rfl) (pv 1))) pss_nil))))))), ?_⟩
    obtain ⟨okvs, fo, ho, _⟩ := hS.obs
    obtain ⟨u, hv⟩ : ∃ u, valV okvs (Sum.inl j) = some (.ref u) := by
      rcases hS.obv ho j with z | z
      · have := hS.noUsr ho z i
        omega
      · exact z
    obtain ⟨tu, ur, ne, _⟩ := hS.usr ho hv
    have ul := ur
    obtain ⟨ukvs, f, hu, di, hf1, hf2⟩ := ur
    have len := ul.len hu
    have ntt : wh.t ≠ u := ne_tag hS.tt tu (by simp)
    have nto : wh.t ≠ wh.ob := ne_tag hS.tt hS.to (by simp)
    have hget : valV ukvs (Sum.inl i) = some (.int (cnt j i : Nat)) := by rw [di.val, hf1, if_neg (by omega)]
    refine ⟨_, rfl, x, _, _, _, _, rfl, hS.hx, cl, a8, rfl, _, rfl, wh.ob, _, rfl, (by rw [← hv]; exact DGet.k (k := Sum.inl j) ho), ?_⟩
    refine ⟨_, rfl, _, rfl, u, _, rfl, (by rw [← hget]; exact DGet.k (k := Sum.inl i) hu), _, 1, rfl, rfl, _, DPut.k (k := Sum.inl i) hu (Nat.lt_of_le_of_lt len (by decide)), ?_⟩
    have goU : ∀ {kvs' : List (Key × V)}, Go τ H τ (upd H u (.dK kvs')) := Go.upd (by rw [tu]; simp) hu
    have g1 : valV (putK ukvs (Sum.inl i) (.int ((cnt j i : Nat) - 1))) (Sum.inl i) = some (.int ((cnt j i : Nat) - 1)) := by rw [valV_put, if_pos rfl]
    refine ⟨_, rfl, _, rfl, u, _, rfl, (by rw [← g1]; exact DGet.k (k := Sum.inl i) upd_same), _, _, rfl, rfl, _, rfl, iteB (fun c => ?_) (fun c => ?_)⟩
    · have c' := of_decide_eq_true c
      refine k _ goU (upd_ne ntt) (hS.putUsr ho hv ⟨_, _, upd_same, di.put i _, fun i' => ?_, fun i' h' => ?_⟩ ⟨i, by simp only [if_pos]; omega⟩)
      · by_cases z : i' = i
        · simp only [z, if_pos]
          rw [if_neg (by omega), Int.natCast_sub (by omega)]
          rfl
        · simp only [if_neg z]
          exact hf1 i'
      · by_cases z : i' = i
        · rw [z]; exact hf2 i (by omega)
        · simp only [if_neg z] at h'
          exact hf2 i' h'
    · have c' := of_decide_eq_false c
      have one : cnt j i = 1 := by omega
      refine ⟨_, rfl, _, rfl, u, _, Sum.inl i, rfl, upd_same, rfl, by rw [g1]; rfl, ?_⟩
      rw [upd_upd]
      have di2 := (di.put i (.int ((cnt j i : Nat) - 1))).drop i
      generalize hkv : dropK (putK ukvs (Sum.inl i) (.int ((cnt j i : Nat) - 1))) (Sum.inl i) = kv2 at *
      have val2 : ∀ i', valV kv2 (Sum.inl i') = if (if i' = i then cnt j i - 1 else cnt j i') = 0 then none else some (.int ((if i' = i then cnt j i - 1 else cnt j i' : Nat) : Nat)) := fun i' => by
        rw [di2.val]
        by_cases z : i' = i
        · simp only [z, if_pos]
          rw [if_pos (by omega)]
        · simp only [if_neg z]
          exact hf1 i'
      have nuo : wh.ob ≠ u := ne_tag hS.to tu (by simp)
      have nux : x ≠ u := ne_tag hS.tx tu (by simp)
      have nug : wh.og ≠ u := ne_tag hS.tg tu (by simp)
      refine ⟨_, rfl, _, rfl, (by show 2 ≤ sizeLine; decide), fun t ht => ?_⟩
      obtain ⟨ntu, ht0⟩ := upd_none ht
      have e1 : ∀ {b : Addr} {o : HO}, H b = some o → b ≠ u → (upd (upd H u (.dK kv2)) t (.tup [V.int j, V.int i])) b = some o := fun h n => by rw [upd_ne (ne_of_none h ht0), upd_ne n]; exact h
      refine ⟨_, rfl, x, _, _, _, _, rfl, e1 hS.hx nux, cl, a9, rfl, wh.og, _, rfl, DGet.t (k := [Sum.inl j, Sum.inl i]) (e1 hS.ogs nug) upd_same, _, rfl, iteF ?_⟩
      have hu2 : (upd (upd H u (.dK kv2)) t (.tup [V.int j, V.int i])) u = some (.dK kv2) := by rw [upd_ne (Ne.symm ntu), upd_same]
      refine ⟨_, rfl, u, kv2, rfl, hu2, rfl, _, rfl, iteB (fun c2 => ?_) (fun c2 => ?_)⟩
      · have l0 : kv2.length = 0 := by
          have := V.int.inj (of_decide_eq_true c2)
          omega
        have nil : kv2 = [] := List.eq_nil_of_length_eq_zero l0
        subst nil
        refine ⟨_, rfl, x, _, _, _, _, rfl, e1 hS.hx nux, cl, a8, rfl, _, rfl, wh.ob, okvs, Sum.inl j, rfl, e1 ho nuo, rfl, by rw [hv]; rfl, ?_⟩
        have st := Same.new (o := .tup [V.int j, V.int i]) ht0
        have eH : upd (upd (upd H u (.dK [])) t (.tup [V.int j, V.int i])) wh.ob (.dK (dropK okvs (Sum.inl j))) = upd (upd (upd H t (.tup [V.int j, V.int i])) wh.ob (.dK (dropK okvs (Sum.inl j)))) u (.dK []) := by
          rw [upd_comm (Ne.symm ntu), upd_comm (Ne.symm nuo)]
        rw [eH]
        have h2 := (hS.same st).dropUsr (k := j) (st _ _ ho)
        have hu3 : (upd (upd H t (.tup [V.int j, V.int i])) wh.ob (.dK (dropK okvs (Sum.inl j)))) u = some (.dK ukvs) := by rw [upd_ne (Ne.symm nuo)]; exact st _ _ hu
        have h3 := h2.garb upd_same (by rw [val_drop, if_pos rfl]) tu (kvs' := []) hu3
        refine k _ (((Go.same st).trans (Go.upd (by rw [hS.to]; simp) (st _ _ ho))).trans (Go.upd (by rw [tu]; simp) hu3)) (by rw [upd_ne ntt, upd_ne nto, upd_ne (ne_of_none hS.tabs.choose_spec.choose_spec.1 ht0)]) (h3.cong fun k' i' => ?_)
        show (if k' = j then (fun _ => 0) else cnt k') i' = (if k' = j then (fun i' => if i' = i then cnt j i - 1 else cnt j i') else cnt k') i'
        by_cases z : k' = j
        · rw [if_pos z, if_pos z]
          have := val2 i'
          rw [show valV ([] : List (Key × V)) (Sum.inl i') = none from rfl] at this
          by_cases y : (if i' = i then cnt j i - 1 else cnt j i') = 0
          · exact y.symm
          · rw [if_neg y] at this
            cases this
        · rw [if_neg z, if_neg z]
      · have l0 : kv2.length ≠ 0 := fun z => of_decide_eq_false c2 (by rw [z]; rfl)
        have st := Same.new (o := .tup [V.int j, V.int i]) ht
        refine k _ (goU.trans (Go.same st)) (by rw [upd_ne (ne_of_none hS.tabs.choose_spec.choose_spec.1 ht0), upd_ne ntt]) (((hS.putUsr ho hv ⟨_, _, upd_same, di2, fun i' => (di2.val i').symm.trans (val2 i'), fun i' h' => ?_⟩ ?_)).same st)
        · by_cases z : i' = i
          · rw [z]; exact hf2 i (by omega)
          · simp only [if_neg z] at h'
            exact hf2 i' h'
        · obtain ⟨q, hq⟩ : ∃ q, q ∈ kv2 := by
            cases kv2 with
            | nil => exact absurd rfl l0
            | cons q r => exact ⟨q, List.mem_cons_self⟩
          obtain ⟨i', e1, e2⟩ := di2.of_mem hq
          refine ⟨i', fun z => ?_⟩
          have := val2 i'
          rw [if_pos z, di2.val, e2] at this
          cases this
def spDisc (A : Adr) : Sp := fun vs H Q _ => ∃ (x : Addr) (wh : Wh) (S : Sys) (τ : Tm) (cnt : Int → Int → Nat) (p : Addr) (g : Pg), vs = [.ref x, .ref p] ∧ Sa A H x wh S τ cnt ∧ PgR A.c_Page H p g ∧ WfP g ∧ (∀ k i, cntO k i (some g) ≤ cnt k i) ∧
  ∀ H', Go τ H τ H' → H' wh.t = H wh.t → Sa A H' x wh S τ (decC cnt g) → Q .non H'
theorem ok_discount_page (G : Txt K mg A) : FnOk P w K mg base CX0 2 A.a_discount_page A.fd_discount_page p_discount_page (spDisc A) := by
  refine G.f_discount_page.ok sc_discount_page (fun vs H Q E h => ?_) (fun cdv A' outer s H vs Q E hr h => ?_)
  · obtain ⟨x, wh, S, τ, cnt, p, g, rfl, _⟩ := h
    rfl
  · obtain ⟨x, wh, S, τ, cnt, p, g, rfl, hS, hp, wf, le, k⟩ := h
    obtain ⟨dx, sv, fa, e, hs, hf⟩ := id hp
    refine ⟨_, (pss_cons (ps_set (i := 2) sc_discount_page.nd rfl (Or.inl rfl) (pe_fld (pv 1) rfl))
  (pss_one (ps_if (pt_cmpR op_notN (pv 2) pe_non (nomark _)) (pss_cons ps_never
  (pss_cons ps_never
  (pss_one ps_never))) (pss_one (ps_if (pt_val (pe_call (ok_has_object G) (hr.mono (by decide)) rfl G.g_has_object G.k_has_object G.bi_has_object .nil pass0 (pa_cons (pv 1) pa_nil))) (pss_one (ps_expr (pe_call (ok_discount_user G) (hr.mono (by decide)) rfl G.g_discount_user G.k_discount_user G.bi_discount_user .nil pass0 (pa_cons (pv 0) (pa_cons (pe_ix ix_tup (pe_fld (pv 1) rfl) pe_int (fun _ _ => rfl)) (pa_cons (pe_fld (pv 1) rfl) pa_nil)))))) pss_nil))))), ?_⟩
    refine ⟨_, rfl, p, _, _, _, _, rfl, e, G.cl_Page, G.n_Page_held, rfl, _, rfl, rfl, _, rfl, iteF ?_⟩
    refine ⟨_, rfl, p, g, rfl, hp, wf, _, rfl, iteB (fun c => ?_) (fun c => ?_)⟩
    · obtain ⟨j, ej⟩ : ∃ j, g.src = .obj j := by
        cases es : g.src with
        | obj j => exact ⟨j, rfl⟩
        | non => rw [es] at c; cases c
        | file n => rw [es] at c; cases c
      obtain ⟨i, ei, i0, i1⟩ := wf.ix (by rw [ej]; simp)
      have hsh := wf.ob j ej
      rw [ej] at hs
      obtain ⟨a, rfl, ha⟩ := hs
      rw [ei] at e
      have pos : 0 < cnt j i := by
        have := le j i
        rw [cntO_is hsh ej ei, if_pos ⟨rfl, rfl⟩] at this
        omega
      refine ⟨_, rfl, _, rfl, p, _, _, _, _, rfl, e, G.cl_Page, G.n_Page_source, rfl, a, _, 1, _, rfl, rfl, SqT.of ha, rfl, _, rfl, p, _, _, _, _, rfl, e, G.cl_Page, G.n_Page_index, rfl, ?_⟩
      refine ⟨x, wh, S, τ, cnt, j, i, rfl, hS, pos, fun H' go et S' => k H' go et (S'.cong fun k' i' => ?_)⟩
      show (if k' = j then (fun i' => if i' = i then cnt j i - 1 else cnt j i') else cnt k') i' = cnt k' i' - cntO k' i' (some g)
      rw [cntO_is hsh ej ei]
      by_cases z : k' = j
      · rw [if_pos z, z]
        by_cases y : i' = i
        · rw [if_pos (show j = j ∧ i' = i from ⟨rfl, y⟩)]
          simp only [y, if_pos]
        · rw [if_neg (show ¬ (j = j ∧ i' = i) from fun q => y q.2)]
          simp only [if_neg y]
          omega
      · rw [if_neg z, if_neg (fun q => z q.1)]
        omega
    · refine k H (Go.refl τ H) rfl (hS.cong fun k' i' => ?_)
      show cnt k' i' = cnt k' i' - cntO k' i' (some g)
      rw [cntO_no fun j ej => by rw [ej] at c; cases c]
      omega
end
end My
set_option Elab.async false
set_option linter.all false
set_option maxRecDepth 100000
set_option maxHeartbeats 4000000
namespace My
open PySem L2
local macro_rules | `(tactic| walk_at "ds") => `(tactic| dsimp only [tSeq, tIfS, tTest, tB, tAnd, tOr, tNot, tAndV, tOrV, tNotV, tIf, tIsN, tNotN, tOp, tUn, tChain, rI, rI0, rU, tC, tCB, tCons, tNil, tAsg, gName, gSub, tRet, tRetN, tNext, tDrop, tLst, tTup, rIxL, rIxT, rSetL, tVar, tFld, tCall, tDGet, tDIn, tDNotIn, tNever, L2.start, List.map, List.replicate, List.length, List.append, List.cons_append, List.nil_append, List.set, Nat.sub])
local macro_rules | `(tactic| walk_at "hp") => `(tactic| first | assumption | exact upd_same | (refine Eq.trans (upd_ne (by first | assumption | (apply Ne.symm; assumption))) ?_; walk_at "hp"))
local macro_rules | `(tactic| walk_at "sd") => `(tactic| first
  | (show (_ : Int) ≠ 0; omega)
  | (refine (show CDivN _ _ from ⟨?_, ?_⟩) <;> omega)
  | (show CPow _ _; refine ⟨by omega, by omega, by omega⟩)
  | (show CMul _ _; exact Or.inl ⟨by omega, by omega⟩)
  | (show CMul _ _; exact Or.inr ⟨by omega, by omega⟩))
local macro_rules | `(tactic| walk_at "st") => `(tactic| first
  | refine ⟨_, rfl, ?_⟩
  | refine ⟨_, _, rfl, rfl, (by walk_at "sd"), ?_⟩
  | refine ⟨_, _, rfl, rfl, ?_⟩
  | refine ⟨_, _, _, _, rfl, rfl, SqL.of (by walk_at "hp"), rfl, ?_⟩
  | refine ⟨_, _, _, _, rfl, rfl, (by walk_at "hp"), rfl, ?_⟩
  | refine .inl ⟨_, rfl, ?_⟩
  | refine ⟨_, _, _, _, _, rfl, (by walk_at "hp"), (by assumption), (by assumption), rfl, ?_⟩
  | refine ⟨_, _, rfl, .inl (SqL.of (by walk_at "hp")), ?_⟩)
local macro_rules | `(tactic| walk_at "go") => `(tactic| repeat (first | walk_at "st" | (walk_at "ds"; walk_at "st")))
local macro_rules | `(tactic| walk_at "ni") => `(tactic| dsimp (config := { proj := false }) only [tNil, List.cons_append, List.nil_append])
section
variable {P : Program} {w : World} {K : PySem.W.Frag} {mg : Str → Option Value} {base : Heap} {A : Adr}
def spRepl (A : Adr) : Sp := fun vs H Q _ => ∃ (x : Addr) (wh : Wh) (S : Sys) (τ : Tm) (i : Int) (c : Addr) (ls : List (Key × V)) (ch : List (Int × Option Pg)) (T : Tb), vs = [.ref x, .int i, .ref c] ∧ Sr A H x wh S τ ∧ S.tabs i = some T ∧
  H c = some (.dK ls) ∧ τ c = none ∧ LsR A.c_Page H ls ch ∧ (ch.map (·.1)).Nodup ∧ (∀ q ∈ ch, 0 ≤ q.1 ∧ q.1 < 512) ∧ (∀ q ∈ ch, ∀ g, q.2 = some g → ∀ k, g.src = .obj k → 1 ≤ k ∧ k ≤ S.o) ∧
  ∀ H' τ', Go τ H τ' H' → Sr A H' x wh (S.setTab i (some (appT T ch))) τ' → Q .non H'
theorem ok_replace_pages (G : Txt K mg A) : FnOk P w K mg base CX0 3 A.a_replace_pages A.fd_replace_pages p_replace_pages (spRepl A) := by
  refine G.f_replace_pages.ok sc_replace_pages (fun vs H Q E h => ?_) (fun cdv A' outer s H vs Q E hr h => ?_)
  · obtain ⟨x, wh, S, τ, i, c, ls, ch, T, rfl, _⟩ := h
    rfl
  · obtain ⟨x, wh, S, τ, i, c, ls, ch, T, rfl, hS, hT, hc, tc, hl, nd, hb, hob, k⟩ := h
    obtain ⟨cl, a3, a4, a5, a6, a7, a8, a9, a10⟩ := G.sysN
    refine ⟨_, (pss_cons (ps_set (i := 3) sc_replace_pages.nd rfl (Or.inr rfl) (pe_dget (hu_of hr) (pe_fld (pv 0) rfl) (pv 1) (fun _ _ => rfl)))
  (pss_cons (ps_lock (ps_setLc (i := 4) (own := [("number", 5)]) (g := gName 5) rfl sc_replace_pages.nd rfl rfl (sw_true rfl rfl rfl (by decide +kernel)) (pi_keys (pv 2)) (blkOk_by (own := [("number", 5)]) (N := n_replace_pages) (sc := defScope s_replace_pages) (by decide +kernel)) (fun _ _ _ _ _ => pg_name (i := 5) sc_replace_pages.nd rfl (Or.inl rfl)) (fun _ _ _ _ _ => pts_one (pt_cmp (pc_din (hu_of hr) (pv 5) (pv 3)))) (fun _ _ _ _ _ => (pe_dget (hu_of hr) (pv 3) (pv 5) (fun _ _ => rfl)))))
  (pss_cons (ps_lock (ps_for PassesOwn.never rfl (pi_values (pv 2)) (pg_name (i := 6) sc_replace_pages.nd rfl (Or.inl rfl)) (pss_one (ps_if (pt_cmpR op_notN (pv 6) pe_non (nomark _)) (pss_one (ps_expr (pe_call (ok_count_page G) (hr.mono (by decide)) rfl G.g_count_page G.k_count_page G.bi_count_page .nil pass0 (pa_cons (pv 0) (pa_cons (pv 6) pa_nil))))) pss_nil))))
  (pss_cons (ps_for PassesOwn.never rfl (pi_list (pv 4)) (pg_name (i := 6) sc_replace_pages.nd rfl (Or.inl rfl)) (pss_one (ps_expr (pe_call (ok_discount_page G) (hr.mono (by decide)) rfl G.g_discount_page G.k_discount_page G.bi_discount_page .nil pass0 (pa_cons (pv 0) (pa_cons (pv 6) pa_nil))))))
  (pss_one (ps_lock (ps_for PassesOwn.never rfl (pi_items (pv 2)) (pg_tup rfl (pgs_cons (pg_name (i := 5) sc_replace_pages.nd rfl (Or.inl rfl)) (pgs_cons (pg_name (i := 6) sc_replace_pages.nd rfl (Or.inl rfl)) pgs_nil))) (pss_one (ps_if (pt_cmpR op_notN (pv 6) pe_non (nomark _)) (pss_one (ps_dput (hu_of hr) (pv 3) (pv 5) (pv 6) rfl)) (pss_one (ps_if (pt_cmp (pc_din (hu_of hr) (pv 5) (pv 3))) (pss_one (ps_ddel (pv 3) (pv 5))) pss_nil))))))))))), ?_⟩
    obtain ⟨d, hd⟩ := hS.living hT
    obtain ⟨bi, td, tkvs, tf, hdk, tdi, tpg⟩ := hS.tabE hd hT
    have b1000 : i ≤ 1000 := Int.le_trans bi.2 hS.bp.2
    have b0 : 0 ≤ i := by omega
    obtain ⟨kvt, ht, hvt⟩ := id hd
    have lnd := hl.length
    have l512 : ch.length ≤ 512 := by
      have := nod_len 512 (ch.map (·.1)) nd fun y hy => by
        obtain ⟨q, hq, rfl⟩ := List.mem_map.mp hy
        have := hb q hq
        omega
      rw [List.length_map] at this
      exact this
    have ncd : c ≠ d := fun e => by rw [e, td] at tc; cases tc
    have ntc : wh.t ≠ c := fun e => by rw [← e, hS.tt] at tc; cases tc
    refine ⟨_, rfl, x, _, _, _, _, rfl, hS.hx, cl, a7, rfl, _, rfl, wh.t, _, rfl, (by rw [← hvt]; exact DGet.k (k := Sum.inl i) ht), ?_⟩
    -- replaced
    refine ⟨c, _, hc, trivial, fun od => ?_⟩
    refine ⟨_, rfl, c, od, rfl, .inl ⟨ls, upd_same, fun D hD => ?_⟩⟩
    obtain ⟨nDc, hD0⟩ := upd_none hD
    refine lc_it walk_keys (fun j Z => Z c = some (.frz od (.dK ls)) ∧ (∃ xs, Z D = some (.lst xs) ∧ XsR A.c_Page H xs ((ch.take j).filterMap fun q => T q.1)) ∧ ∀ b o, b ≠ c → H b = some o → Z b = some o)
      ⟨by rw [upd_ne (Ne.symm nDc), upd_same], ⟨[], upd_same, True.intro⟩, fun b o hb ho => by rw [upd_ne (ne_of_none ho hD0), upd_ne hb]; exact ho⟩ (fun j Z _ z => z.1) ?_ ?_
    · rintro j y Z _ hj ⟨z1, ⟨xs, z2, z3⟩, z5⟩ ⟨rfl, key, v, hkey, rfl⟩
      obtain ⟨q, hq, ek, _⟩ := hl.get hkey
      simp only at ek
      subst ek
      have tk := take_succ hq
      refine ⟨rfl, ?_⟩
      refine ⟨_, rfl, _, rfl, d, _, rfl, DGet.k (k := Sum.inl q.1) (z5 _ _ (Ne.symm ncd) hdk), _, rfl, ?_⟩
      have rel := tpg q.1
      have eval : valV tkvs (Sum.inl q.1) = tf q.1 := tdi.val q.1
      cases ev : tf q.1 with
      | none =>
        rw [ev] at rel eval
        have eT : T q.1 = none := by
          cases eT : T q.1 with
          | none => rfl
          | some g => rw [eT] at rel; exact rel.elim
        rw [eval]
        refine iteF ⟨z1, ⟨xs, z2, ?_⟩, z5⟩
        rw [tk, List.filterMap_append]
        simpa [eT] using z3
      | some u =>
        rw [ev] at rel eval
        obtain ⟨g, eT⟩ : ∃ g, T q.1 = some g := by
          cases eT : T q.1 with
          | none => rw [eT] at rel; exact rel.elim
          | some g => exact ⟨g, rfl⟩
        rw [eT] at rel
        obtain ⟨_, wf, p', rfl, hp'⟩ := rel
        rw [eval]
        have lx := z3.length
        have lf := List.length_filterMap_le (fun q : Int × Option Pg => T q.1) (ch.take j)
        have lt := List.length_take_le j ch
        refine iteT ⟨_, rfl, _, rfl, d, _, rfl, (by rw [← eval]; exact DGet.k (k := Sum.inl q.1) (z5 _ _ (Ne.symm ncd) hdk)), _, z2, Nat.lt_of_le_of_lt (by omega : xs.length ≤ 10000) (by decide), ?_⟩
        refine ⟨by rw [upd_ne (Ne.symm nDc)]; exact z1, ⟨_, upd_same, ?_⟩, fun b o hb ho => by rw [upd_ne (ne_of_none ho hD0)]; exact z5 b o hb ho⟩
        rw [tk, List.filterMap_append]
        have : List.filterMap (fun q : Int × Option Pg => T q.1) [q] = [g] := by simp [eT]
        rw [this]
        exact z3.snoc ⟨wf, p', rfl, hp'⟩
    · rintro Z ⟨z1, ⟨xs, z2, z3⟩, z5⟩
      rw [hl.length, List.take_length] at z3
      refine ⟨z1, ?_⟩
      generalize hH1 : upd Z c (.dK ls) = H1
      have c1 : H1 c = some (.dK ls) := by rw [← hH1, upd_same]
      have l1 : H1 D = some (.lst xs) := by rw [← hH1, upd_ne nDc]; exact z2
      have s1 : Same H H1 := fun b o ho => by
        rw [← hH1]
        by_cases eb : b = c
        · rw [eb, upd_same, ← hc, ← eb, ho]
        · rw [upd_ne eb]
          exact z5 b o eb ho
      have tD := hS.fresh hD0
      have S1 := hS.same s1
      have kz : ∀ {u : HO}, ImmK H1 (upd H1 c u) := fun {u} => ImmK.upd c1 rfl
      have kp : ∀ {Z : Hp} {u v : HO}, Z c = some u → isImm u = false → ∀ {τ' : Tm}, τ' c = none → Kp τ' Z (upd Z c v) := fun {Z u v} e i {τ'} t b o e' h' => by
        by_cases z : b = c
        · rw [z] at e' h'
          rw [e] at e'
          cases e'
          rcases h' with h' | h'
          · exact absurd t h'
          · rw [i] at h'; cases h'
        · rw [upd_ne z]; exact e'
      have occ0 : ∀ k m, cntS S k m + occ ((ch.take 0).filterMap (·.2)) k m = cntS S k m := fun k m => Nat.add_zero _
      have occ1 : ∀ k m, cntS S k m + occ (ch.filterMap (·.2)) k m - occ ((ch.filterMap fun q => T q.1).take 0) k m = cntS S k m + occ (ch.filterMap (·.2)) k m := fun k m => Nat.sub_zero _
      -- for page in changes.values()
      refine ⟨c, _, c1, trivial, fun od2 => ?_⟩
      have l0 := hl.keep (ImmK.same s1)
      refine ⟨_, rfl, c, od2, ls, rfl, upd_same, for_it walk_values (fun j σ Z => ∃ τj, Go τ (upd H1 c (.frz od2 (.dK ls))) τj Z ∧ Z wh.t = H wh.t ∧ Sa A Z x wh S τj (fun k m => cntS S k m + occ ((ch.take j).filterMap (·.2)) k m) ∧ ∃ c6, σ = [some (.ref x), some (.int i), some (.ref c), some (.ref d), some (.ref D), none, c6])
        ⟨τ, Go.refl _ _, by rw [upd_ne ntc, s1 _ _ ht, ht], (S1.keep (kp c1 rfl tc)).cong (fun k m => (occ0 k m).symm), _, rfl⟩ (fun j σ Z _ z => by obtain ⟨τj, go, _⟩ := z; exact go.fr _ _ tc upd_same) ?_ ?_⟩
      · rintro j y σ Z0 Z hj ⟨τj, go, et, Sj, c6, rfl⟩ ⟨rfl, key, hk⟩
        obtain ⟨q, hq, ek, pv⟩ := l0.get hk
        have tk := take_succ hq
        have im : ImmK H1 Z := kz.trans ((S1.keep (kp c1 rfl tc)).imm go)
        cases eg : q.2 with
        | none =>
          rw [eg] at pv
          cases (show y = .non from pv)
          refine ⟨_, rfl, rfl, _, rfl, iteF ⟨τj, go, et, Sj.cong fun k m => ?_, _, rfl⟩⟩
          rw [tk, List.filterMap_append]
          simp [eg]
        | some g =>
          rw [eg] at pv
          obtain ⟨wf, p', rfl, hp'⟩ := pv
          refine ⟨_, rfl, rfl, _, rfl, iteT ⟨_, rfl, _, rfl, x, wh, S, τj, _, p', g, rfl, Sj, hp'.keep im, wf, hob q (List.mem_of_getElem? hq) g eg, fun H2 τ2 go2 et2 S2 => ⟨τ2, go.trans go2, et2.trans et, S2.cong fun k m => ?_, _, rfl⟩⟩⟩
          rw [tk, List.filterMap_append]
          have : List.filterMap (·.2) [q] = [g] := by simp [eg]
          rw [this, occ_append]
          show cntS S k m + occ ((ch.take j).filterMap (·.2)) k m + cntO k m (some g) = _
          have : occ [g] k m = cntO k m (some g) := by rw [occ_cons]; rfl
          omega
      · rintro σ Z ⟨τ1, go1, et1, S1', c6, rfl⟩
        rw [lnd, List.take_length] at S1'
        have zc : Z c = some (.frz od2 (.dK ls)) := go1.fr _ _ tc upd_same
        have tc1 : τ1 c = none := by
          rcases go1.ex c with z | z
          · exact z.trans tc
          · exact absurd z.2 (by rw [upd_same]; simp)
        refine ⟨zc, ?_⟩
        have S2 := S1'.keep (kp zc rfl tc1 (v := .dK ls))
        have go2 : Go τ H τ1 (upd Z c (.dK ls)) := by
          refine ⟨fun b o n e => ?_, fun b => ?_, fun b xs e => by
            have eb : b ≠ c := fun z => by rw [z, hc] at e; cases e
            rw [upd_ne eb]
            exact go1.ls b xs (by rw [upd_ne eb]; exact s1 _ _ e)⟩
          · by_cases eb : b = c
            · rw [eb, upd_same, ← hc, ← eb, e]
            · rw [upd_ne eb]
              exact go1.fr b o n (by rw [upd_ne eb]; exact s1 _ _ e)
          · rcases go1.ex b with z | ⟨z1, z2⟩
            · exact .inl z
            · refine .inr ⟨z1, ?_⟩
              obtain ⟨nb, z2⟩ := upd_none z2
              exact Same.free s1 z2
        have im2 : ImmK H (upd Z c (.dK ls)) := hS.imm go2
        have lD : (upd Z c (.dK ls)) D = some (.lst xs) := by
          rw [upd_ne nDc]
          exact go1.fr _ _ tD (by rw [upd_ne nDc]; exact l1)
        have tD1 : τ1 D = none := by
          rcases go1.ex D with z | z
          · exact z.trans tD
          · exact absurd z.2 (by rw [upd_ne nDc, l1]; simp)
        have lc2 : (upd Z c (.dK ls)) c = some (.dK ls) := upd_same
        have et2 : (upd Z c (.dK ls)) wh.t = H wh.t := by rw [upd_ne ntc]; exact et1
        generalize hH2 : upd Z c (.dK ls) = H2 at *
        have x2 := z3.keep im2
        have cntE := fun k m => cntS_app (S := S) (i := i) b0 b1000 hT nd hb k m
        -- for page in replaced
        refine ⟨_, rfl, D, rfl, ⟨_, SqL.of lD⟩, for_list (K := K) (a := D) (xs := xs) (fun j σ Z => Go τ1 H2 τ1 Z ∧ Z wh.t = H wh.t ∧ Sa A Z x wh S τ1 (fun k m => cntS S k m + occ (ch.filterMap (·.2)) k m - occ ((ch.filterMap fun q => T q.1).take j) k m) ∧ ∃ c6, σ = [some (.ref x), some (.int i), some (.ref c), some (.ref d), some (.ref D), none, c6])
          ⟨Go.refl _ _, et2, S2.cong fun k m => (occ1 k m).symm, _, rfl⟩ (fun j σ Z _ z => SqL.of (z.1.fr _ _ tD1 lD)) ?_ ?_⟩
        · rintro j y σ Z hy ⟨goj, et, Sj, c6, rfl⟩
          obtain ⟨g, hg, wf, p', rfl, hp'⟩ := x2.get hy
          have tk := take_succ hg
          refine ⟨_, rfl, _, rfl, x, wh, S, τ1, _, p', g, rfl, Sj, hp'.keep (S2.imm goj), wf, fun k m => ?_, fun H3 go3 et3 S3 => ⟨goj.trans go3, et3.trans et, S3.cong fun k m => ?_, _, rfl⟩⟩
          · have a := (cntE k m).2
            have b := occ_le_take (ch.filterMap fun q => T q.1) (j + 1) k m
            rw [tk, occ_append] at b
            have : occ [g] k m = cntO k m (some g) := by rw [occ_cons]; rfl
            show cntO k m (some g) ≤ cntS S k m + occ (ch.filterMap (·.2)) k m - occ ((ch.filterMap fun q => T q.1).take j) k m
            omega
          · show cntS S k m + occ (ch.filterMap (·.2)) k m - occ ((ch.filterMap fun q => T q.1).take j) k m - cntO k m (some g) = cntS S k m + occ (ch.filterMap (·.2)) k m - occ ((ch.filterMap fun q => T q.1).take (j + 1)) k m
            rw [tk, occ_append]
            have : occ [g] k m = cntO k m (some g) := by rw [occ_cons]; rfl
            omega
        · rintro σ Z ⟨go3, et3, S3, c6, rfl⟩
          rw [x2.length, List.take_length] at S3
          have S3' := S3.cong (fun k m => (cntE k m).1)
          have zc3 : Z c = some (.dK ls) := go3.fr _ _ tc1 lc2
          have im3 : ImmK H Z := im2.trans (S2.imm go3)
          refine ⟨c, _, zc3, trivial, fun od3 => ?_⟩
          have hd3 : TabOf Z wh i d := hd.keep (fun o e => et3.trans e)
          have S4 := S3'.keep (kp zc3 rfl tc1 (v := .frz od3 (.dK ls)))
          have td1 : τ1 d = some (.tab i) := (S3'.tabE hd3 hT).2.1
          have ntd : wh.t ≠ d := ne_tag S3'.tt td1 (by simp)
          refine ⟨_, rfl, c, od3, ls, rfl, upd_same, for_it walk_items (fun j σ Z' => Go τ1 (upd Z c (.frz od3 (.dK ls))) τ1 Z' ∧ Sa A Z' x wh (S.setTab i (some (appT T (ch.take j)))) τ1 (cntS (S.setTab i (some (appT T ch)))) ∧ TabOf Z' wh i d ∧ ∃ c5 c6, σ = [some (.ref x), some (.int i), some (.ref c), some (.ref d), some (.ref D), c5, c6])
            ⟨Go.refl _ _, by rw [show appT T (ch.take 0) = T from rfl, setTab_id hT]; exact S4, hd3.keep (fun o e => by rw [upd_ne ntc]; exact e), _, _, rfl⟩ (fun j σ Z' _ z => z.1.fr _ _ tc1 upd_same) ?_ ?_⟩
          · rintro j y σ Z1 Z2 hj ⟨go4, Sj, hdj, c5, c6, rfl⟩ ⟨T0, k0, v0, rfl, hT0, rfl, hk0, hv0⟩
            obtain ⟨⟨key, v⟩, hkv⟩ : ∃ q, ls[j]? = some q := ⟨ls[j], List.getElem?_eq_getElem hj⟩
            have hk1 : some (kV key) = some k0 := by have h := hk0; simp only [hkv] at h; exact h
            have hv1 : some v = some v0 := by have h := hv0; simp only [hkv] at h; exact h
            have hk2 := Option.some.inj hk1
            have hv2 := Option.some.inj hv1
            subst hk2 hv2
            obtain ⟨q, hq, ek, pv⟩ := hl.get hkv
            simp only at ek pv
            subst ek
            have tk := take_succ hq
            have at1 : appT T (ch.take (j + 1)) = setT (appT T (ch.take j)) q.1 q.2 := by rw [tk, appT_snoc]
            have sT := Same.new (o := .tup [kV (Sum.inl q.1), v]) hT0
            have S5 := Sj.same sT
            have hd5 := hdj.keep (H' := upd Z1 T0 (.tup [kV (Sum.inl q.1), v])) (fun o e => sT _ _ e)
            have go5 := go4.trans (Go.same sT)
            have im5 : ImmK H (upd Z1 T0 (.tup [kV (Sum.inl q.1), v])) := (im3.trans (ImmK.upd zc3 rfl)).trans (S4.imm go5)
            have bq := hb q (List.mem_of_getElem? hq)
            refine ⟨T0, _, rfl, SqT.of upd_same, rfl, _, _, rfl, _, _, rfl, rfl, ?_⟩
            generalize hZ5 : upd Z1 T0 (.tup [kV (Sum.inl q.1), v]) = Z5 at *
            obtain ⟨_, _, kv5, f5, hk5, di5, pg5⟩ := S5.tabE hd5 (setTab_at S i _)
            have fin : ∀ {kvs' : List (Key × V)}, TabR A.c_Page (upd Z5 d (.dK kvs')) d (setT (appT T (ch.take j)) q.1 q.2) → ∀ {c5 c6 : Option V}, Go τ1 (upd Z c (.frz od3 (.dK ls))) τ1 (upd Z5 d (.dK kvs')) ∧ Sa A (upd Z5 d (.dK kvs')) x wh (S.setTab i (some (appT T (ch.take (j + 1))))) τ1 (cntS (S.setTab i (some (appT T ch)))) ∧ TabOf (upd Z5 d (.dK kvs')) wh i d ∧ ∃ c5' c6', [some (V.ref x), some (.int i), some (.ref c), some (.ref d), some (.ref D), c5, c6] = [some (V.ref x), some (.int i), some (.ref c), some (.ref d), some (.ref D), c5', c6'] := fun {kvs'} r {c5 c6} => by
              refine ⟨go5.trans (Go.upd (by rw [td1]; simp) hk5), ?_, hd5.keep (fun o e => by rw [upd_ne ntd]; exact e), _, _, rfl⟩
              have := S5.putTab hd5 r
              rw [setTab_two] at this
              rw [at1]
              exact this
            cases eq2 : q.2 with
            | none =>
              rw [eq2] at pv at1 fin
              cases (show v = .non from pv)
              refine ⟨_, rfl, rfl, _, rfl, iteF ⟨_, rfl, _, rfl, d, _, rfl, DGet.k (k := Sum.inl q.1) hk5, _, rfl, ?_⟩⟩
              rw [di5.val]
              have rel := (pg5 q.1).none_iff
              cases ev : f5 q.1 with
              | none =>
                refine iteF ⟨go5, ?_, hd5, _, _, rfl⟩
                rw [at1, setT_none (rel.mp ev)]
                exact S5
              | some u =>
                refine iteT ⟨_, rfl, _, rfl, d, _, Sum.inl q.1, rfl, hk5, rfl, (by rw [di5.val, ev]; rfl), fin (tab_drop hk5 di5 pg5)⟩
            | some g =>
              rw [eq2] at pv at1 fin
              obtain ⟨wf, p', rfl, hp'⟩ := pv
              have len5 : kv5.length ≤ 512 := di5.len fun i' hi' => by
                have := (pg5 i').low hi'
                omega
              exact ⟨_, rfl, rfl, _, rfl, iteT ⟨_, rfl, _, rfl, _, rfl, d, _, rfl, DPut.k (k := Sum.inl q.1) hk5 (Nat.lt_of_le_of_lt len5 (by decide)), fin (tab_put hk5 di5 pg5 bq wf (hp'.keep im5))⟩⟩
          · rintro σ Z1 ⟨go4, Sj, hdj, c5, c6, rfl⟩
            rw [lnd, List.take_length] at Sj
            have zc4 : Z1 c = some (.frz od3 (.dK ls)) := go4.fr _ _ tc1 upd_same
            refine ⟨zc4, k _ τ1 ?_ (Sj.keep (kp zc4 rfl tc1))⟩
            have goZ : Go τ H τ1 Z := go2.trans go3
            refine ⟨fun b o n e => ?_, goZ.ex, fun b xs e => by
              have eb : b ≠ c := fun z => by rw [z, hc] at e; cases e
              rw [upd_ne eb]
              exact go4.ls b xs (by rw [upd_ne eb]; exact goZ.ls b xs e)⟩
            have e3 := goZ.fr b o n e
            by_cases eb : b = c
            · rw [eb, upd_same, ← hc, ← eb, e]
            · rw [upd_ne eb]
              have n1 : τ1 b = none := by
                rcases goZ.ex b with z | z
                · exact z.trans n
                · rw [e] at z; cases z.2
              exact go4.fr b o n1 (by rw [upd_ne eb]; exact e3)
end
end My
set_option Elab.async false
set_option linter.all false
set_option maxRecDepth 100000
set_option maxHeartbeats 4000000
namespace My
open PySem L2
local macro_rules | `(tactic| walk_at "ds") => `(tactic| dsimp only [tSeq, tIfS, tTest, tB, tAnd, tOr, tNot, tAndV, tOrV, tNotV, tIf, tIsN, tNotN, tOp, tUn, tChain, rI, rI0, rU, tC, tCB, tCons, tNil, tAsg, gName, gSub, tRet, tRetN, tNext, tDrop, tLst, tTup, rIxL, rIxT, rSetL, tVar, tFld, tCall, tDGet, tDIn, tDNotIn, tNever, L2.start, List.map, List.replicate, List.length, List.append, List.cons_append, List.nil_append, List.set, Nat.sub])
local macro_rules | `(tactic| walk_at "hp") => `(tactic| first | assumption | exact upd_same | (refine Eq.trans (upd_ne (by first | assumption | (apply Ne.symm; assumption))) ?_; walk_at "hp"))
local macro_rules | `(tactic| walk_at "sd") => `(tactic| first
  | (show (_ : Int) ≠ 0; omega)
  | (refine (show CDivN _ _ from ⟨?_, ?_⟩) <;> omega)
  | (show CPow _ _; refine ⟨by omega, by omega, by omega⟩)
  | (show CMul _ _; exact Or.inl ⟨by omega, by omega⟩)
  | (show CMul _ _; exact Or.inr ⟨by omega, by omega⟩))
local macro_rules | `(tactic| walk_at "st") => `(tactic| first
  | refine ⟨_, rfl, ?_⟩
  | refine ⟨_, _, rfl, rfl, (by walk_at "sd"), ?_⟩
  | refine ⟨_, _, rfl, rfl, ?_⟩
  | refine ⟨_, _, _, _, rfl, rfl, SqL.of (by walk_at "hp"), rfl, ?_⟩
  | refine ⟨_, _, _, _, rfl, rfl, (by walk_at "hp"), rfl, ?_⟩
  | refine .inl ⟨_, rfl, ?_⟩
  | refine ⟨_, _, _, _, _, rfl, (by walk_at "hp"), (by assumption), (by assumption), rfl, ?_⟩
  | refine ⟨_, _, rfl, .inl (SqL.of (by walk_at "hp")), ?_⟩)
local macro_rules | `(tactic| walk_at "go") => `(tactic| repeat (first | walk_at "st" | (walk_at "ds"; walk_at "st")))
local macro_rules | `(tactic| walk_at "ni") => `(tactic| dsimp (config := { proj := false }) only [tNil, List.cons_append, List.nil_append])
section
variable {P : Program} {w : World} {K : PySem.W.Frag} {mg : Str → Option Value} {base : Heap} {A : Adr}
def spRuns : Sp := fun vs H Q _ => ∃ (d : Addr) (kvs : List (Key × V)) (f : Int → Bool), vs = [.ref d] ∧ H d = some (.dK kvs) ∧ KS f kvs ∧ ∀ q H', Same H H' → H q = none → H' q = some (.lst ((runs f 512).map V.int)) → Q (.ref q) H'
theorem ok_free_runs (G : Txt K mg A) : FnOk P w K mg base CX0 1 A.a_free_runs A.fd_free_runs p_free_runs spRuns := by
  refine G.f_free_runs.ok sc_free_runs (fun vs H Q E h => ?_) (fun cdv A' outer s H vs Q E hr h => ?_)
  · obtain ⟨d, kvs, f, rfl, _⟩ := h
    rfl
  · obtain ⟨d, kvs, f, rfl, hd, hf, k⟩ := h
    refine ⟨_, (pss_cons (ps_set (i := 1) sc_free_runs.nd rfl (Or.inl rfl) (pe_lst pa_nil))
  (pss_cons (ps_set (i := 2) sc_free_runs.nd rfl (Or.inl rfl) pe_int)
  (pss_cons (ps_for PassesOwn.never rfl (pi_range1 rfl G.b_range (pa_cons (pe_glob (v := .int 512) rfl G.g_PAGES ⟨_, rfl⟩) pa_nil)) (pg_name (i := 3) sc_free_runs.nd rfl (Or.inl rfl)) (pss_cons (ps_set (i := 2) sc_free_runs.nd rfl (Or.inl rfl) (pe_ifExp (pt_cmp (pc_din (hu_of hr) (pv 3) (pv 0))) pe_int (pe_op op_add (pv 2) pe_int)))
  (pss_one (ps_expr (pe_bm PySem.F.plainAttrs_list PySem.F.slot_list_append PySem.F.type_list_append mt_append (pv 1) (pa_cons (pv 2) pa_nil))))))
  (pss_one (ps_ret (pv 1)))))), ?_⟩
    refine ⟨Nat.zero_le _, fun q hq => ?_⟩
    refine ⟨512, rfl, by decide, by decide, for_range (lo := 0) (n := 512) (fun i σ H' => (∃ c3, σ = [some (.ref d), some (.ref q), some (.int (runN f i)), c3]) ∧ Same H H' ∧ H' q = some (.lst ((runs f i).map V.int)))
      ⟨⟨_, rfl⟩, Same.new hq, upd_same⟩ ?_ ?_⟩
    · rintro i σ H1 hi ⟨⟨c3, rfl⟩, s1, l1⟩
      have ei : (0 : Int) + (i : Nat) = (i : Int) := Int.zero_add _
      rw [ei]
      refine ⟨_, rfl, _, rfl, d, _, rfl, DGet.k (k := Sum.inl (i : Int)) (s1 _ _ hd), _, rfl, ?_⟩
      rw [hf]
      have few : ((runs f i).map V.int).length < sizeLine := small1000 (by unfold runs; rw [List.length_map, List.length_map, List.length_range]; omega)
      have fin : ∀ r : Int, r = runN f (i + 1) → (∃ c3, [some (V.ref d), some (V.ref q), some (V.int r), some (V.int (i : Int))] = [some (V.ref d), some (V.ref q), some (V.int (runN f (i + 1))), c3]) ∧
          Same H (upd H1 q (.lst ((runs f i).map V.int ++ [V.int r]))) ∧ (upd H1 q (.lst ((runs f i).map V.int ++ [V.int r]))) q = some (.lst ((runs f (i + 1)).map V.int)) := fun r er => by
        refine ⟨⟨_, by rw [er]⟩, fun b o ho => ?_, ?_⟩
        · rw [upd_ne (ne_of_none ho hq)]
          exact s1 b o ho
        · rw [upd_same, runs_succ, List.map_append, er]
          rfl
      cases cf : f (i : Int) with
      | true => exact iteT ⟨_, rfl, .inl ⟨rfl, _, SqL.of l1⟩, _, rfl, q, _, _, rfl, rfl, l1, few, fin 0 (by unfold runN; rw [if_pos cf])⟩
      | false => exact iteF ⟨_, rfl, _, _, rfl, rfl, _, rfl, .inl ⟨rfl, _, SqL.of l1⟩, _, rfl, q, _, _, rfl, rfl, l1, few, fin _ (by rw [runN, if_neg (by rw [cf]; exact Bool.false_ne_true)])⟩
    · rintro σ H1 ⟨⟨c3, rfl⟩, s1, l1⟩
      exact ⟨_, rfl, k q H1 s1 hq l1⟩
def spGapL : Sp := fun vs H Q _ => ∃ (d : Addr) (c : Int) (kvs : List (Key × V)) (f : Int → Bool), vs = [.ref d, .int c] ∧ H d = some (.dK kvs) ∧ KS f kvs ∧ ∀ H', Same H H' → Q (fits f c) H'
theorem ok_lowest_gap (G : Txt K mg A) : FnOk P w K mg base CX0 2 A.a_lowest_gap A.fd_lowest_gap p_lowest_gap spGapL := by
  refine G.f_lowest_gap.ok sc_lowest_gap (fun vs H Q E h => ?_) (fun cdv A' outer s H vs Q E hr h => ?_)
  · obtain ⟨d, c, kvs, f, rfl, _⟩ := h
    rfl
  · obtain ⟨d, c, kvs, f, rfl, hd, hf, k⟩ := h
    refine ⟨_, (pss_cons (ps_for PassesOwn.never rfl (pi_enum rfl G.b_enumerate (pa_cons (pe_call (ok_free_runs G) (hr.mono (by decide)) rfl G.g_free_runs G.k_free_runs G.bi_free_runs .nil pass0 (pa_cons (pv 0) pa_nil)) pa_nil)) (pg_tup rfl (pgs_cons (pg_name (i := 2) sc_lowest_gap.nd rfl (Or.inl rfl)) (pgs_cons (pg_name (i := 3) sc_lowest_gap.nd rfl (Or.inl rfl)) pgs_nil))) (pss_one (ps_if (pt_cmpR op_eq (pv 3) (pv 1) (nomark _)) (pss_one (ps_ret (pe_op op_add (pe_op op_sub (pv 2) (pv 1)) pe_int))) pss_nil)))
  (pss_one (ps_ret pe_non))), ?_⟩
    refine ⟨_, rfl, d, kvs, f, rfl, hd, hf, fun q H1 s1 _ l1 => ?_⟩
    have len : ((runs f 512).map V.int).length = 512 := by unfold runs; rw [List.length_map, List.length_map, List.length_range]
    refine ⟨q, _, rfl, SqL.of l1, for_it walk_enum (fun i σ H' => (∃ c2 c3, σ = [some (.ref d), some (.int c), c2, c3]) ∧ Same H H' ∧ H' q = some (.lst ((runs f 512).map V.int)) ∧ ∀ j, j < i → runN f (j + 1) ≠ c)
      ⟨⟨_, _, rfl⟩, s1, l1, fun j hj => by omega⟩ (fun i σ H' _ hp => SqL.of hp.2.2.1) ?_ ?_⟩
    · rintro i y σ H2 H3 hi ⟨⟨c2, c3, rfl⟩, s2, l2, hb⟩ ⟨T, x0, y0, rfl, hT, rfl, hx0, hy0⟩
      cases hx0
      rw [len] at hi
      have hy1 : ((runs f 512).map V.int)[i]? = some y0 := hy0
      have hy2 : ((runs f 512).map V.int)[i]? = some (V.int (runN f (i + 1))) := by
        unfold runs
        rw [List.map_map, List.getElem?_map, List.getElem?_range hi]
        rfl
      rw [hy2] at hy1
      cases hy1
      have s3 := s2.trans (Same.new (o := .tup [V.int (i : Int), V.int (runN f (i + 1))]) hT)
      refine ⟨T, _, rfl, SqT.of upd_same, rfl, _, _, rfl, _, _, rfl, rfl, ?_⟩
      refine ⟨_, rfl, _, rfl, rfl, _, rfl, ?_⟩
      by_cases e : runN f (i + 1) = c
      · rw [decide_eq_true (by rw [e])]
        refine iteT ⟨_, rfl, _, rfl, _, _, rfl, rfl, _, _, rfl, rfl, ?_⟩
        have := k _ s3
        rw [fits_at hi e hb] at this
        exact this
      · rw [decide_eq_false (fun z => e (V.int.inj z))]
        refine iteF ⟨⟨_, _, rfl⟩, s3, Same.new hT _ _ l2, fun j hj => ?_⟩
        by_cases z : j = i
        · rw [z]; exact e
        · exact hb j (by omega)
    · rintro σ H2 ⟨⟨c2, c3, rfl⟩, s2, l2, hb⟩
      rw [len] at hb
      have := k _ s2
      rw [fits_no hb] at this
      exact this
def spPlace (A : Adr) : Sp := fun vs H Q E => ∃ (d : Addr) (c : Int) (at_ : V) (kvs : List (Key × V)) (f : Int → Bool), vs = [.ref d, .int c, at_] ∧ H d = some (.dK kvs) ∧ KS f kvs ∧ AnyV H at_ ∧
  (inR 0 (512 - c) (placeV f c at_) = true → ∀ H', Same H H' → Q (placeV f c at_) H') ∧ (inR 0 (512 - c) (placeV f c at_) = false → Rz A.c_NoPages "part" (.str "at") H E)
theorem ok_place_for (G : Txt K mg A) : FnOk P w K mg base (L2.CX P w) 4 A.a_place_for A.fd_place_for p_place_for (spPlace A) := by
  refine G.f_place_for.okX sc_place_for (fun vs H Q E h => ?_) (fun cdv A' outer s H vs Q E hr h => ?_)
  · obtain ⟨d, c, at_, kvs, f, rfl, _⟩ := h
    rfl
  · obtain ⟨d, c, at_, kvs, f, rfl, hd, hf, ha, k1, k2⟩ := h
    refine ⟨_, (pss_cons (ps_set (i := 3) sc_place_for.nd rfl (Or.inl rfl) (pe_ifExp (pt_cmpR op_isN (pv 2) pe_non (nomark _)) (pe_call (ok_lowest_gap G) (hr.mono (by decide)) rfl G.g_lowest_gap G.k_lowest_gap G.bi_lowest_gap .nil pass0 (pa_cons (pv 0) (pa_cons (pv 1) pa_nil))) (pv 2)))
  (pss_cons (ps_expr (pe_call (ok_require G) (hr.mono (by decide)) rfl G.g_require G.k_require G.bi_require .nil (passes_call (takes_of rfl rfl rfl rfl) (fun _ _ _ _ z => z)) (pa_cons (pe_call (ok_is_integer G) (hr.mono (by decide)) rfl G.g_is_integer G.k_is_integer G.bi_is_integer .nil pass0 (pa_cons (pv 3) (pa_cons pe_int (pa_cons (pe_op op_sub (pe_glob (v := .int 512) rfl G.g_PAGES ⟨_, rfl⟩) (pv 1)) pa_nil)))) (pa_cons pe_str pa_nil))))
  (pss_one (ps_ret (pv 3))))), ?_⟩
    refine ⟨_, rfl, rfl, _, rfl, ?_⟩
    by_cases e0 : at_ = .non
    · rw [decide_eq_true e0]
      refine iteT ⟨_, rfl, _, rfl, d, c, kvs, f, rfl, hd, hf, fun H1 s1 => ?_⟩
      have e : placeV f c at_ = fits f c := if_pos e0
      rw [e] at k1 k2
      refine ⟨_, rfl, _, rfl, _, _, rfl, rfl, _, 0, 512 - c, rfl, (fits_any f c H1).1, inR 0 (512 - c) (fits f c), _, rfl, fun z => ⟨_, rfl, k1 z H1 s1⟩, fun z => (k2 z).same s1⟩
    · rw [decide_eq_false e0]
      have e : placeV f c at_ = at_ := if_neg e0
      rw [e] at k1 k2
      exact iteF ⟨_, rfl, _, rfl, _, rfl, _, _, rfl, rfl, _, 0, 512 - c, rfl, ha, inR 0 (512 - c) at_, _, rfl, fun z => ⟨_, rfl, k1 z H (Same.refl H)⟩, fun z => k2 z⟩
def spFileOf (A : Adr) : Sp := fun vs H Q E => ∃ (x : Addr) (wh : Wh) (S : Sys) (τ : Tm) (cnt : Int → Int → Nat) (nm : V), vs = [.ref x, nm] ∧ Sa A H x wh S τ cnt ∧ AnyV H nm ∧
  (∀ n, nm = .str n → S.fls n = true → ∀ v, Q v H) ∧ ((∀ n, nm = .str n → S.fls n = false) → Rz A.c_NoFile "name" nm H E)
theorem ok_file_of (G : Txt K mg A) : FnOk P w K mg base (L2.CX P w) 3 A.a_file_of A.fd_file_of p_file_of (spFileOf A) := by
  refine G.f_file_of.okX sc_file_of (fun vs H Q E h => ?_) (fun cdv A' outer s H vs Q E hr h => ?_)
  · obtain ⟨x, wh, S, τ, cnt, nm, rfl, _⟩ := h
    rfl
  · obtain ⟨x, wh, S, τ, cnt, nm, rfl, hS, hv, k1, k2⟩ := h
    obtain ⟨cl, a3, a4, a5, a6, a7, a8, a9, a10⟩ := G.sysN
    refine ⟨_, (pss_cons (ps_if (PW.pt (pw_or (pt_not (pt_val (pe_callB call_isi (by rfl) G.b_isinstance (by decide +kernel) (pa_cons (pv 1) (pa_cons (pe_bltn (v := .ty "str") (u := .type "str") (by rfl) G.b_str (by decide +kernel) rfl) pa_nil))))) (pw_or1 (pt_cmp (pc_dnotin (hu_of hr) (pv 1) (pe_fld (pv 0) rfl)))))) (pss_one (ps_raise rfl (takes_of rfl rfl rfl rfl) (pmk_oex G.x_NoFile G.xi_NoFile G.xt_NoFile (ok_NoFile_init G) (hr.mono (by decide)) G.bi_NoFile_init .nil pass0 rfl G.g_NoFile (pa_cons (pv 1) pa_nil)))) pss_nil)
  (pss_one (ps_ret (pe_dget (hu_of hr) (pe_fld (pv 0) rfl) (pv 1) (fun _ _ => rfl))))), ?_⟩
    obtain ⟨t, h1, _, _, h4, _⟩ := hv.ty (K := K)
    obtain ⟨fkvs, hf, hfv, _⟩ := hS.fis
    have fin : (∀ n, nm = .str n → S.fls n = false) → tMkO A.c_NoFile (spXi K "name") [] (tCons (tVar 1) tNil) (L2.start n_file_of [V.ref x, nm]) H (fun cls d H' => E cls d H') := fun hn =>
      ⟨_, rfl, (by show 1 ≤ 1000; decide), fun a ha => xi_done G.x_NoFile G.xn_NoFile ha (k2 hn)⟩
    refine ⟨_, rfl, nm, .ty "str", .type t, .type "str", _, rfl, .ty "str", h1, h4, _, rfl, ?_⟩
    cases e : isS nm with
    | false => exact iteT (iteT (fin fun n en => by subst en; cases e))
    | true =>
      obtain ⟨n, rfl⟩ : ∃ n, nm = V.str n := by cases nm <;> first | exact ⟨_, rfl⟩ | (cases e; done)
      refine iteF ⟨_, rfl, _, rfl, x, _, _, _, _, rfl, hS.hx, cl, a10, rfl, wh.fi, _, rfl, DGet.k (k := Sum.inr n) hf, _, rfl, ?_⟩
      rw [hfv]
      refine iteB (fun c => ?_) (fun c => ?_)
      · exact fin fun m em => by rw [← V.str.inj em]; simpa using c
      · have c' : S.fls n = true := by simpa using c
        obtain ⟨v, ev⟩ : ∃ v, valV fkvs (Sum.inr n) = some v := Option.isSome_iff_exists.mp ((hfv n).trans c')
        exact ⟨_, rfl, x, _, _, _, _, rfl, hS.hx, cl, a10, rfl, _, rfl, wh.fi, _, rfl, (by rw [← ev]; exact DGet.k (k := Sum.inr n) hf), k1 n rfl c' v⟩
def spSrcq (A : Adr) : Sp := fun vs H Q E => ∃ (x : Addr) (wh : Wh) (S : Sys) (τ : Tm) (cnt : Int → Int → Nat) (sov : V) (sh : Bool), vs = [.ref x, sov, .bl sh] ∧ Sa A H x wh S τ cnt ∧ AnyV H sov ∧
  SrcC A.c_NoPages A.c_NoFile H S.fls cnt sov sh E (fun _ => ∀ H', Same H H' → Q .non H')
theorem ok_require_source (G : Txt K mg A) : FnOk P w K mg base (L2.CX P w) 4 A.a_require_source A.fd_require_source p_require_source (spSrcq A) := by
  refine G.f_require_source.okX sc_require_source (fun vs H Q E h => ?_) (fun cdv A' outer s H vs Q E hr h => ?_)
  · obtain ⟨x, wh, S, τ, cnt, sov, sh, rfl, _⟩ := h
    rfl
  · obtain ⟨x, wh, S, τ, cnt, sov, sh, rfl, hS, hv, k1, k2, k3⟩ := h
    obtain ⟨cl, a3, a4, a5, a6, a7, a8, a9, a10⟩ := G.sysN
    refine ⟨_, (pss_cons (ps_if (pt_cmpR op_isN (pv 1) pe_non (nomark _)) (pss_one ps_retN) pss_nil)
  (pss_cons (ps_expr (pe_call (ok_require G) (hr.mono (by decide)) rfl G.g_require G.k_require G.bi_require .nil (passes_call (takes_of rfl rfl rfl rfl) (fun _ _ _ _ z => z)) (pa_cons (pe_and (pe_callB call_isi (by rfl) G.b_isinstance (by decide +kernel) (pa_cons (pv 1) (pa_cons (pe_bltn (v := .ty "tuple") (u := .type "tuple") (by rfl) G.b_tuple (by decide +kernel) rfl) pa_nil))) (pe_one (pe_cmpR op_eq (pe_callB call_len_seq (by rfl) G.b_len (by decide +kernel) (pa_cons (pv 1) pa_nil)) pe_int (nomark _)))) (pa_cons pe_str pa_nil))))
  (pss_cons (ps_asg (pv 1) (pg_tup rfl (pgs_cons (pg_name (i := 3) sc_require_source.nd rfl (Or.inl rfl)) (pgs_cons (pg_name (i := 4) sc_require_source.nd rfl (Or.inl rfl)) pgs_nil))))
  (pss_cons (ps_expr (pe_call (ok_require G) (hr.mono (by decide)) rfl G.g_require G.k_require G.bi_require .nil (passes_call (takes_of rfl rfl rfl rfl) (fun _ _ _ _ z => z)) (pa_cons (pe_call (ok_is_word G) (hr.mono (by decide)) rfl G.g_is_word G.k_is_word G.bi_is_word .nil pass0 (pa_cons (pv 3) (pa_cons (pe_tup (pa_cons pe_str (pa_cons pe_str pa_nil))) pa_nil))) (pa_cons pe_str pa_nil))))
  (pss_one (ps_if (pt_cmpR op_eq (pv 3) pe_str (nomark _)) (pss_one (ps_expr (pe_call (ok_file_of G) (hr.mono (by decide)) rfl G.g_file_of G.k_file_of G.bi_file_of .nil (passes_call (takes_of rfl rfl rfl rfl) (fun _ _ _ _ z => z)) (pa_cons (pv 0) (pa_cons (pv 4) pa_nil))))) (pss_one (ps_expr (pe_call (ok_require G) (hr.mono (by decide)) rfl G.g_require G.k_require G.bi_require .nil (passes_call (takes_of rfl rfl rfl rfl) (fun _ _ _ _ z => z)) (pa_cons (pe_and (pv 2) (pe_and (pe_call (ok_is_integer G) (hr.mono (by decide)) rfl G.g_is_integer G.k_is_integer G.bi_is_integer .nil pass0 (pa_cons (pv 4) (pa_cons pe_int (pa_cons (pe_fld (pv 0) rfl) pa_nil)))) (pe_one (pe_cmp (pc_din (hu_of hr) (pv 4) (pe_fld (pv 0) rfl)) rfl)))) (pa_cons pe_str pa_nil))))))))))), ?_⟩
    refine ⟨_, rfl, rfl, _, rfl, iteD (fun e => k1 e H (Same.refl H)) (fun e => ?_)⟩
    obtain ⟨t, h1, _, _, _, h5⟩ := hv.ty (K := K)
    refine ⟨_, rfl, sov, .ty "tuple", .type t, .type "tuple", _, rfl, .ty "tuple", h1, h5, _, rfl, ?_⟩
    cases et : isTup H sov with
    | false =>
      refine iteF ⟨false, _, rfl, fun z => (nomatch z), fun _ => k2 ⟨e, fun ⟨a, k, nm, e1, e2⟩ => ?_⟩⟩
      subst e1
      simp only [isTup, e2] at et
      cases et
    | true =>
      obtain ⟨a, xs, rfl, ha⟩ : ∃ a xs, sov = .ref a ∧ H a = some (.tup xs) := by
        cases hv with
        | tup z => exact ⟨_, _, rfl, z⟩
        | lst z => simp only [isTup, z] at et; cases et
        | dK z => simp only [isTup, z] at et; cases et
        | non => cases et
        | bl _ => cases et
        | int _ => cases et
        | str _ => cases et
      refine iteT ⟨_, rfl, a, xs, rfl, .inr (SqT.of ha), rfl, ?_⟩
      refine ⟨_, _, rfl, fun z => ?_, fun z => k2 ⟨e, fun ⟨a', k, nm, e1, e2⟩ => ?_⟩⟩
      · have l2 : xs.length = 2 := by
          have := V.int.inj (of_decide_eq_true z)
          omega
        obtain ⟨kd, nm, rfl⟩ : ∃ kd nm, xs = [kd, nm] := by
          match xs, l2 with
          | [kd, nm], _ => exact ⟨kd, nm, rfl⟩
        obtain ⟨hkd, hnm, k4, k5, k6⟩ := k3 a kd nm rfl ha
        refine ⟨_, rfl, a, _, rfl, SqT.of ha, rfl, _, _, rfl, _, _, rfl, rfl, ?_⟩
        refine ⟨_, rfl, (by show 2 ≤ sizeLine; decide), fun q hq => ?_⟩
        have s1 := Same.new (o := .tup FO) hq
        refine ⟨kd, q, FO, rfl, hkd.same s1, SqT.of upd_same, rfl, isW FO kd, _, rfl, fun z => ?_, fun z => (k4 z).same s1⟩
        obtain ⟨kn, rfl⟩ : ∃ kn, kd = V.str kn := by
          cases kd <;> first | exact ⟨_, rfl⟩ | (cases z; done)
        refine ⟨_, rfl, rfl, _, rfl, iteD (fun e1 => ?_) (fun e1 => ?_)⟩
        · obtain ⟨k7, k8⟩ := k5 e1
          exact ⟨_, rfl, _, rfl, x, wh, S, τ, cnt, nm, rfl, hS.same s1, hnm.same s1, fun n en hn v => k7 n en hn _ s1, fun z => (k8 z).same s1⟩
        · have e2 : V.str kn = .str "object" := by
            have : inV (.str kn) FO = true := by
              have := z
              unfold isW at this
              exact this
            rcases inW_two this with z | z
            · exact absurd z e1
            · exact z
          obtain ⟨k7, k8⟩ := k6 e2
          obtain ⟨okvs, fo, ho, _⟩ := hS.obs
          have S1 := hS.same s1
          refine ⟨_, rfl, _, rfl, ?_⟩
          cases sh with
          | false => exact iteF ⟨false, _, rfl, fun z => (nomatch z), fun _ => (k8 fun z => by cases z.1).same s1⟩
          | true =>
            refine iteT ⟨_, rfl, _, rfl, x, _, _, _, _, rfl, S1.hx, cl, a6, rfl, nm, 1, S.o, rfl, hnm.same s1, _, rfl, ?_⟩
            cases ei : inR 1 S.o nm with
            | false =>
              refine iteF ⟨false, _, rfl, fun z => (nomatch z), fun _ => (k8 fun z => ?_).same s1⟩
              obtain ⟨_, j, rfl, i, hc⟩ := z
              have := hS.cntPos hc
              rw [inR_of this.1 this.2] at ei
              cases ei
            | true =>
              obtain ⟨j, rfl, _⟩ := inR_int ei
              refine iteT ⟨_, rfl, _, rfl, x, _, _, _, _, rfl, S1.hx, cl, a8, rfl, wh.ob, _, rfl, DGet.k (k := Sum.inl j) (s1 _ _ ho), ?_⟩
              rcases hS.obv ho j with z | ⟨u, z⟩
              · rw [z]
                refine ⟨false, _, rfl, fun z => (nomatch z), fun _ => (k8 fun y => ?_).same s1⟩
                obtain ⟨_, j', ej, i, hc⟩ := y
                cases ej
                exact hc (hS.noUsr ho z i)
              · rw [z]
                exact ⟨true, _, rfl, fun _ => k7 j rfl rfl (hS.usr ho z).2.2.1 _ s1, fun z => by cases z⟩
      · cases e1
        rw [ha] at e2
        cases e2
        exact of_decide_eq_false z rfl
end
end My
set_option Elab.async false
set_option linter.all false
set_option maxRecDepth 100000
set_option maxHeartbeats 4000000
namespace My
open PySem L2
local macro_rules | `(tactic| walk_at "ds") => `(tactic| dsimp only [tSeq, tIfS, tTest, tB, tAnd, tOr, tNot, tAndV, tOrV, tNotV, tIf, tIsN, tNotN, tOp, tUn, tChain, rI, rI0, rU, tC, tCB, tCons, tNil, tAsg, gName, gSub, tRet, tRetN, tNext, tDrop, tLst, tTup, rIxL, rIxT, rSetL, tVar, tFld, tCall, tDGet, tDIn, tDNotIn, tNever, L2.start, List.map, List.replicate, List.length, List.append, List.cons_append, List.nil_append, List.set, Nat.sub])
local macro_rules | `(tactic| walk_at "hp") => `(tactic| first | assumption | exact upd_same | (refine Eq.trans (upd_ne (by first | assumption | (apply Ne.symm; assumption))) ?_; walk_at "hp"))
local macro_rules | `(tactic| walk_at "sd") => `(tactic| first
  | (show (_ : Int) ≠ 0; omega)
  | (refine (show CDivN _ _ from ⟨?_, ?_⟩) <;> omega)
  | (show CPow _ _; refine ⟨by omega, by omega, by omega⟩)
  | (show CMul _ _; exact Or.inl ⟨by omega, by omega⟩)
  | (show CMul _ _; exact Or.inr ⟨by omega, by omega⟩))
local macro_rules | `(tactic| walk_at "st") => `(tactic| first
  | refine ⟨_, rfl, ?_⟩
  | refine ⟨_, _, rfl, rfl, (by walk_at "sd"), ?_⟩
  | refine ⟨_, _, rfl, rfl, ?_⟩
  | refine ⟨_, _, _, _, rfl, rfl, SqL.of (by walk_at "hp"), rfl, ?_⟩
  | refine ⟨_, _, _, _, rfl, rfl, (by walk_at "hp"), rfl, ?_⟩
  | refine .inl ⟨_, rfl, ?_⟩
  | refine ⟨_, _, _, _, _, rfl, (by walk_at "hp"), (by assumption), (by assumption), rfl, ?_⟩
  | refine ⟨_, _, rfl, .inl (SqL.of (by walk_at "hp")), ?_⟩)
local macro_rules | `(tactic| walk_at "go") => `(tactic| repeat (first | walk_at "st" | (walk_at "ds"; walk_at "st")))
local macro_rules | `(tactic| walk_at "ni") => `(tactic| dsimp (config := { proj := false }) only [tNil, List.cons_append, List.nil_append])
section
variable {P : Program} {w : World} {K : PySem.W.Frag} {mg : Str → Option Value} {base : Heap} {A : Adr}
def spReq (A : Adr) : Sp := fun vs H Q E => ∃ (x : Addr) (wh : Wh) (S : Sys) (τ : Tm) (cnt : Int → Int → Nat) (v w : V), vs = [.ref x, v, w] ∧ Sa A H x wh S τ cnt ∧ Q .non H
theorem ok_require_charge (G : Txt K mg A) : FnOk P w K mg base (L2.CX P w) 1 A.a_require_charge A.fd_require_charge p_require_charge (spReq A) := by
  refine G.f_require_charge.okX sc_require_charge (fun vs H Q E h => ?_) (fun cdv A' outer s H vs Q E hr h => ?_)
  · obtain ⟨x, wh, S, τ, cnt, v, w, rfl, _⟩ := h
    rfl
  · obtain ⟨x, wh, S, τ, cnt, v, w, rfl, hS, k⟩ := h
    obtain ⟨cl, a3, a4, a5, a6, a7, a8, a9, a10⟩ := G.sysN
    refine ⟨_, (pss_one (ps_if (pt_val (pe_fld (pv 0) rfl)) (pss_one ps_never) pss_nil)), ?_⟩
    exact ⟨_, rfl, x, _, _, _, _, rfl, hS.hx, cl, a3, rfl, _, rfl, iteF k⟩
def spNew (A : Adr) : Sp := fun vs H Q _ => ∃ (f c : Int) (p : Addr) (r : Str) (sh : Bool) (sv : V) (s : Src) (i0 : Int) (fa : Addr), vs = [.int f, .int c, .ref p] ∧ PgAt A.c_Page H p (.str r) (.bl sh) sv (.int i0) (.ref fa) .non ∧ srcR H sv s ∧ H fa = some (.tup []) ∧
  0 ≤ c ∧ c ≤ 512 ∧ (∀ k : Int, 0 ≤ k → k < c → WfP (newPg r sh s i0 k)) ∧
  ∀ q ls H', Same H H' → H q = none → H' q = some (.dK ls) → LsR A.c_Page H' ls (newCh f c.toNat fun k => newPg r sh s i0 (k : Int)) → Q (.ref q) H'
theorem ok_new_pages (G : Txt K mg A) : FnOk P w K mg base CX0 3 A.a_new_pages A.fd_new_pages p_new_pages (spNew A) := by
  refine G.f_new_pages.ok sc_new_pages (fun vs H Q E h => ?_) (fun cdv A' outer s H vs Q E hr h => ?_)
  · obtain ⟨f, c, p, r, sh, sv, s, i0, fa, rfl, _⟩ := h
    rfl
  · obtain ⟨f, c, p, r, sh, sv, s, i0, fa, rfl, ⟨dx, hp⟩, hs, hfa, c0, c1, wf, k⟩ := h
    refine ⟨_, (pss_cons (ps_set (i := 3) sc_new_pages.nd rfl (Or.inl rfl) pe_dnewK)
  (pss_cons (ps_for PassesOwn.never rfl (pi_range1 rfl G.b_range (pa_cons (pv 1) pa_nil)) (pg_name (i := 4) sc_new_pages.nd rfl (Or.inl rfl)) (pss_cons (ps_set (i := 5) sc_new_pages.nd rfl (Or.inl rfl) (pe_ifExp (pt_cmpR op_isN (pe_fld (pv 2) rfl) pe_non (nomark _)) pe_non (pe_op op_add (pe_fld (pv 2) rfl) (pv 4))))
  (pss_one (ps_dput (hu_of hr) (pv 3) (pe_op op_add (pv 0) (pv 4)) (pe_make G.mk_Page (ok_Page_init G) (hr.mono (by decide)) rfl G.g_Page G.bi_Page_init .nil pass0 (pa_cons (pe_fld (pv 2) rfl) (pa_cons (pe_fld (pv 2) rfl) (pa_cons (pe_fld (pv 2) rfl) (pa_cons (pv 5) (pa_cons (pe_fld (pv 2) rfl) (pa_cons (pe_fld (pv 2) rfl) (pa_cons (pe_fld (pv 2) rfl) pa_nil)))))))) rfl))))
  (pss_one (ps_ret (pv 3))))), ?_⟩
    intro q hq
    refine ⟨_, rfl, c, rfl, by omega, by omega, for_range (lo := 0) (n := c.toNat) (fun i σ H' => (∃ c4 c5, σ = [some (.int f), some (.int c), some (.ref p), some (.ref q), c4, c5]) ∧ Same H H' ∧
        ∃ ls, H' q = some (.dK ls) ∧ LsR A.c_Page H' ls (newCh f i fun k => newPg r sh s i0 (k : Int)))
      ⟨⟨_, _, rfl⟩, Same.new hq, [], upd_same, True.intro⟩ ?_ ?_⟩
    · rintro i σ H1 hi ⟨⟨c4, c5, rfl⟩, s1, ls, l1, rel⟩
      have ei : (0 : Int) + (i : Nat) = (i : Int) := Int.zero_add _
      rw [ei]
      have hp1 := s1 _ _ hp
      have len : ls.length ≤ 512 := by
        have := rel.length
        unfold newCh at this
        rw [List.length_map, List.length_range] at this
        omega
      -- the index, whether there is a source or not
      have hs1 := hs.keep (ImmK.same s1)
      have esv : decide (sv = .non) = decide (s = .non) := by
        cases s with
        | non => cases hs; rfl
        | file n => obtain ⟨a, rfl, _⟩ := hs; rfl
        | obj j => obtain ⟨a, rfl, _⟩ := hs; rfl
      refine tIf_val (v := ixV (newPg r sh s i0 (i : Int)).ix) (b := decide (sv = .non)) (fun Q' q' => ⟨_, rfl, p, _, _, _, _, rfl, hp1, G.cl_Page, G.n_Page_source, rfl, rfl, _, rfl, q'⟩) (fun e Q' q' => ?_) (fun e Q' q' => ?_) ?_
      · rw [esv] at e
        have e' := of_decide_eq_true e
        rw [show (newPg r sh s i0 (i : Int)).ix = none from if_pos e'] at q'
        exact q'
      · rw [esv] at e
        have e' := of_decide_eq_false e
        rw [show (newPg r sh s i0 (i : Int)).ix = some (i0 + i) from if_neg e'] at q'
        exact ⟨_, rfl, p, _, _, _, _, rfl, hp1, G.cl_Page, G.n_Page_index, rfl, _, rfl, _, _, rfl, rfl, q'⟩
      dsimp only [gName, List.set]
      refine ⟨_, rfl, p, _, _, _, _, rfl, hp1, G.cl_Page, G.n_Page_rights, rfl, _, rfl, p, _, _, _, _, rfl, hp1, G.cl_Page, G.n_Page_shared, rfl, _, rfl, p, _, _, _, _, rfl, hp1, G.cl_Page, G.n_Page_source, rfl, _, rfl,
        _, rfl, p, _, _, _, _, rfl, hp1, G.cl_Page, G.n_Page_flags, rfl, _, rfl, p, _, _, _, _, rfl, hp1, G.cl_Page, G.n_Page_held, rfl, _, rfl, p, _, _, _, _, rfl, hp1, G.cl_Page, G.n_Page_stamp, rfl, ?_⟩
      intro y dy hy hdy ne
      refine ⟨y, dy, _, _, _, _, _, _, _, rfl, upd_same, fun H2 b2 pg => ⟨rfl, ?_⟩⟩
      have s2 : Same H1 H2 := fun b o ho => by
        refine b2 b o (ne_of_none ho hy) ?_
        rw [upd_ne (ne_of_none ho hy), upd_ne (ne_of_none ho hdy)]
        exact ho
      have s3 := s1.trans s2
      have rel2 := rel.keep (ImmK.same s2)
      have vn : valV ls (Sum.inl (f + (i : Int))) = none := rel.val_none fun z hz e => by
        obtain ⟨k', hk', rfl⟩ := newCh_mem hz
        simp only at e
        omega
      refine ⟨_, rfl, _, rfl, _, rfl, _, _, rfl, rfl, q, _, rfl, DPut.k (k := Sum.inl (f + (i : Int))) (s2 _ _ l1) (Nat.lt_of_le_of_lt len (by decide)), ?_⟩
      have im : ImmK H2 (upd H2 q (.dK (putK ls (Sum.inl (f + (i : Int))) (.ref y)))) := ImmK.upd (s2 _ _ l1) rfl
      refine ⟨⟨_, _, rfl⟩, fun b o ho => by rw [upd_ne (ne_of_none ho hq)]; exact s3 _ _ ho, _, upd_same, ?_⟩
      rw [putK_new _ vn, newCh_succ]
      rw [putK_new _ vn] at im
      have pg2 : PgR A.c_Page H2 y (newPg r sh s i0 (i : Int)) := by
        obtain ⟨dz, ez⟩ := pg
        exact ⟨dz, _, fa, ez, hs.keep (ImmK.same s3), s3 _ _ hfa⟩
      exact LsR.snoc (kv := (Sum.inl (f + (i : Int)), V.ref y)) (q := (f + (i : Int), some (newPg r sh s i0 (i : Int)))) rfl (show PgV _ _ (.ref y) (some (newPg r sh s i0 (i : Int))) from ⟨wf i (by omega) (by omega), y, rfl, pg2.keep im⟩) (rel2.keep im)
    · rintro σ H1 ⟨⟨c4, c5, rfl⟩, s1, ls, l1, rel⟩
      exact ⟨_, rfl, k q ls H1 s1 hq l1 rel⟩
def mpd (T : Tb) : Int → Bool := fun k => (T k).isSome
def spMap (A : Adr) : Sp := fun vs H Q E => ∃ (x : Addr) (wh : Wh) (S : Sys) (τ : Tm) (who cv rv shv sov iv av : V), vs = [.ref x, who, cv, rv, shv, sov, iv, av] ∧ Sr A H x wh S τ ∧ (AnyV H who ∧ AnyV H cv ∧ AnyV H rv ∧ AnyV H shv ∧ AnyV H sov ∧ AnyV H iv ∧ AnyV H av) ∧
  ((∀ i, who = .int i → S.tabs i = none) → Rz A.c_NoProcess "process" who H E) ∧ ∀ i T, who = .int i → S.tabs i = some T →
  (inR 1 512 cv = false → Rz A.c_NoPages "part" (.str "count") H E) ∧ ∀ c, cv = .int c → 1 ≤ c → c ≤ 512 →
  (isW RTS rv = false → Rz A.c_NoPages "part" (.str "rights") H E) ∧ ∀ r, rv = .str r → isW RTS (.str r) = true →
  (isB shv = false → Rz A.c_NoPages "part" (.str "shared") H E) ∧ ∀ sh, shv = .bl sh →
  SrcC A.c_NoPages A.c_NoFile H S.fls (cntS S) sov sh E fun s =>
    (inR 0 (if s = .non then 0 else 512 - c) iv = false → Rz A.c_NoPages "part" (.str "index") H E) ∧ ∀ ix, iv = .int ix → 0 ≤ ix → (s = .non → ix = 0) → (s ≠ .non → ix ≤ 512 - c) →
    (inR 0 (512 - c) (placeV (mpd T) c av) = false → Rz A.c_NoPages "part" (.str "at") H E) ∧ ∀ f, placeV (mpd T) c av = .int f → 0 ≤ f → f ≤ 512 - c →
    (sh = true → s = .non → S.o < 1000) ∧ ∀ H' τ', Go τ H τ' H' → Sr A H' x wh (mapS S i T f c r sh s ix) τ' → Q (.int f) H'
theorem ok_map_pages (G : Txt K mg A) : FnOk P w K mg base (L2.CX P w) 5 A.a_map_pages A.fd_map_pages p_map_pages (spMap A) := by
  refine G.f_map_pages.ok sc_map_pages (fun vs H Q E h => ?_) (fun cdv A' outer s H vs Q E hr h => ?_)
  · obtain ⟨x, wh, S, τ, who, cv, rv, shv, sov, iv, av, rfl, _⟩ := h
    rfl
  · obtain ⟨x, wh, S, τ, who, cv, rv, shv, sov, iv, av, rfl, hS, ⟨h1, h2, h3, h4, h5, h6, h7⟩, k1, k2⟩ := h
    obtain ⟨cl, a3, a4, a5, a6, a7, a8, a9, a10⟩ := G.sysN
    refine ⟨_, (pss_cons (ps_set (i := 8) sc_map_pages.nd rfl (Or.inl rfl) (pe_call (ok_table_of G) (hr.mono (by decide)) rfl G.g_table_of G.k_table_of G.bi_table_of .nil (passes_call (takes_of rfl rfl rfl rfl) (fun _ _ _ _ z => z)) (pa_cons (pv 0) (pa_cons (pv 1) pa_nil))))
  (pss_cons (ps_expr (pe_call (ok_require G) (hr.mono (by decide)) rfl G.g_require G.k_require G.bi_require .nil (passes_call (takes_of rfl rfl rfl rfl) (fun _ _ _ _ z => z)) (pa_cons (pe_call (ok_is_integer G) (hr.mono (by decide)) rfl G.g_is_integer G.k_is_integer G.bi_is_integer .nil pass0 (pa_cons (pv 2) (pa_cons pe_int (pa_cons (pe_glob (v := .int 512) rfl G.g_PAGES ⟨_, rfl⟩) pa_nil)))) (pa_cons pe_str pa_nil))))
  (pss_cons (ps_expr (pe_call (ok_require G) (hr.mono (by decide)) rfl G.g_require G.k_require G.bi_require .nil (passes_call (takes_of rfl rfl rfl rfl) (fun _ _ _ _ z => z)) (pa_cons (pe_call (ok_is_word G) (hr.mono (by decide)) rfl G.g_is_word G.k_is_word G.bi_is_word .nil pass0 (pa_cons (pv 3) (pa_cons (pe_glob (v := .ref A.o_RIGHTS) rfl G.g_RIGHTS rfl) pa_nil))) (pa_cons pe_str pa_nil))))
  (pss_cons (ps_expr (pe_call (ok_require G) (hr.mono (by decide)) rfl G.g_require G.k_require G.bi_require .nil (passes_call (takes_of rfl rfl rfl rfl) (fun _ _ _ _ z => z)) (pa_cons (pe_callB call_isi (by rfl) G.b_isinstance (by decide +kernel) (pa_cons (pv 4) (pa_cons (pe_bltn (v := .ty "bool") (u := .type "bool") (by rfl) G.b_bool (by decide +kernel) rfl) pa_nil))) (pa_cons pe_str pa_nil))))
  (pss_cons (ps_expr (pe_call (ok_require_source G) (hr.mono (by decide)) rfl G.g_require_source G.k_require_source G.bi_require_source .nil (passes_call (takes_of rfl rfl rfl rfl) (fun _ _ _ _ z => z)) (pa_cons (pv 0) (pa_cons (pv 5) (pa_cons (pv 4) pa_nil)))))
  (pss_cons (ps_expr (pe_call (ok_require G) (hr.mono (by decide)) rfl G.g_require G.k_require G.bi_require .nil (passes_call (takes_of rfl rfl rfl rfl) (fun _ _ _ _ z => z)) (pa_cons (pe_call (ok_is_integer G) (hr.mono (by decide)) rfl G.g_is_integer G.k_is_integer G.bi_is_integer .nil pass0 (pa_cons (pv 6) (pa_cons pe_int (pa_cons (pe_ifExp (pt_cmpR op_isN (pv 5) pe_non (nomark _)) pe_int (pe_op op_sub (pe_glob (v := .int 512) rfl G.g_PAGES ⟨_, rfl⟩) (pv 2))) pa_nil)))) (pa_cons pe_str pa_nil))))
  (pss_cons (ps_set (i := 9) sc_map_pages.nd rfl (Or.inl rfl) (pe_call (ok_place_for G) (hr.mono (by decide)) rfl G.g_place_for G.k_place_for G.bi_place_for .nil (passes_call (takes_of rfl rfl rfl rfl) (fun _ _ _ _ z => z)) (pa_cons (pv 8) (pa_cons (pv 2) (pa_cons (pv 7) pa_nil)))))
  (pss_cons (ps_set (i := 10) sc_map_pages.nd rfl (Or.inl rfl) (pe_and (pv 4) (pe_one (pe_cmp (pc_isN (pv 5)) rfl))))
  (pss_cons (ps_set (i := 11) sc_map_pages.nd rfl (Or.inl rfl) (pe_ifExp (pt_val (pv 10)) (pe_tup (pa_cons pe_str (pa_cons (pe_op op_add (pe_fld (pv 0) rfl) pe_int) pa_nil))) (pv 5)))
  (pss_cons (ps_set (i := 12) sc_map_pages.nd rfl (Or.inl rfl) (pe_call (ok_new_pages G) (hr.mono (by decide)) rfl G.g_new_pages G.k_new_pages G.bi_new_pages .nil pass0 (pa_cons (pv 9) (pa_cons (pv 2) (pa_cons (pe_make G.mk_Page (ok_Page_init G) (hr.mono (by decide)) rfl G.g_Page G.bi_Page_init .nil pass0 (pa_cons (pv 3) (pa_cons (pv 4) (pa_cons (pv 11) (pa_cons (pv 6) (pa_cons (pe_tup pa_nil) (pa_cons pe_non (pa_cons (pe_call (ok_this_step G) (hr.mono (by decide)) rfl G.g_this_step G.k_this_step G.bi_this_step .nil pass0 (pa_cons (pv 0) pa_nil)) pa_nil)))))))) pa_nil)))))
  (pss_cons (ps_expr (pe_call (ok_require_charge G) (hr.mono (by decide)) rfl G.g_require_charge G.k_require_charge G.bi_require_charge .nil (passes_call (takes_of rfl rfl rfl rfl) (fun _ _ _ _ z => z)) (pa_cons (pv 0) (pa_cons (pe_disp (pps_cons (pv 1) (pe_star2 (pv 8) (pv 12)) pps_nil) (by rfl) (by rfl) (fun z => by cases z) (by decide)) (pa_cons pe_dnewK pa_nil)))))
  (pss_cons (ps_if (pt_val (pv 10)) (pss_one (ps_fldaug (pv 0) pe_int in_add)) pss_nil)
  (pss_cons (ps_expr (pe_call (ok_replace_pages G) (hr.mono (by decide)) rfl G.g_replace_pages G.k_replace_pages G.bi_replace_pages .nil pass0 (pa_cons (pv 0) (pa_cons (pv 1) (pa_cons (pv 12) pa_nil)))))
  (pss_cons (ps_expr (pe_call (ok_end_step G) (hr.mono (by decide)) rfl G.g_end_step G.k_end_step G.bi_end_step .nil pass0 (pa_cons (pv 0) pa_nil)))
  (pss_one (ps_ret (pv 9))))))))))))))))), ?_⟩
    refine ⟨_, rfl, _, rfl, x, wh, S, τ, _, who, rfl, hS, h1, fun i d e hd => ?_, k1⟩
    subst e
    obtain ⟨T, eT, _⟩ := hS.tab hd
    obtain ⟨bi, td, tkvs, tf, hdk, tdi, tpg⟩ := hS.tabE hd eT
    obtain ⟨k3, k4⟩ := k2 i T rfl eT
    -- count
    refine ⟨_, rfl, cv, 1, 512, rfl, h2, inR 1 512 cv, _, rfl, fun z => ?_, k3⟩
    obtain ⟨c, rfl, c0, c1⟩ := inR_int z
    obtain ⟨k5, k6⟩ := k4 c rfl c0 c1
    -- rights
    refine ⟨_, rfl, rv, A.o_RIGHTS, RTS, rfl, h3, rights_at G, by decide +kernel, isW RTS rv, _, rfl, fun z => ?_, k5⟩
    obtain ⟨r, rfl⟩ : ∃ r, rv = V.str r := by
      cases rv <;> first | exact ⟨_, rfl⟩ | (cases z; done)
    obtain ⟨k7, k8⟩ := k6 r rfl z
    have hrt := z
    -- shared
    obtain ⟨ty, q1, _, q3, _⟩ := h4.ty (K := K)
    refine ⟨_, rfl, shv, .ty "bool", .type ty, .type "bool", isB shv, rfl, .ty "bool", q1, q3, isB shv, _, rfl, fun z => ?_, k7⟩
    obtain ⟨sh, rfl⟩ : ∃ sh, shv = V.bl sh := by
      cases shv <;> first | exact ⟨_, rfl⟩ | (cases z; done)
    -- source
    refine ⟨_, rfl, _, rfl, _, rfl, x, wh, S, τ, _, sov, sh, rfl, hS, h5, SrcC.mono (k8 sh rfl) fun s hs hob hfn ks => ?_⟩
    clear k1 k2 k3 k4 k5 k6 k7 k8
    intro H1 s1
    obtain ⟨k9, k10⟩ := ks
    have esv : decide (sov = .non) = decide (s = .non) := by
      cases s with
      | non => cases hs; rfl
      | file n => obtain ⟨a, rfl, _⟩ := hs; rfl
      | obj j => obtain ⟨a, rfl, _⟩ := hs; rfl
    have S1 := hS.same s1
    -- index
    refine ⟨_, rfl, ?_⟩
    try dsimp only [gName, List.set]
    refine tIf_val (v := .int (if s = .non then 0 else 512 - c)) (b := decide (sov = .non)) (fun Q' q' => ⟨_, rfl, rfl, _, rfl, q'⟩) (fun e Q' q' => ?_) (fun e Q' q' => ?_) ?_
    · rw [esv] at e
      rw [if_pos (of_decide_eq_true e)] at q'
      exact q'
    · rw [esv] at e
      rw [if_neg (of_decide_eq_false e)] at q'
      exact ⟨_, rfl, _, _, rfl, rfl, q'⟩
    refine ⟨iv, 0, _, rfl, h6.same s1, inR 0 (if s = .non then 0 else 512 - c) iv, _, rfl, fun z => ?_, fun z => (k9 z).same s1⟩
    obtain ⟨ix, rfl, x0, x1⟩ := inR_int z
    obtain ⟨k11, k12⟩ := k10 ix rfl x0 (fun e => by rw [if_pos e] at x1; omega) (fun e => by rw [if_neg e] at x1; exact x1)
    -- first
    have hd1 := s1 _ _ hdk
    refine ⟨_, rfl, _, rfl, _, rfl, d, c, av, tkvs, mpd T, rfl, hd1, fun k => ?_, h7.same s1, fun zr H2 s2 => ?_, fun z => (k11 z).same s1⟩
    · rw [tdi.val]
      exact (tpg k).isSome
    obtain ⟨f, ef, f0, f1⟩ := inR_int zr
    obtain ⟨k13, k14⟩ := k12 f ef f0 f1
    rw [ef]
    clear k9 k10 k11 k12 zr z
    have s3 := s1.trans s2
    have S3 := hS.same s3
    have hs3 := hs.keep (ImmK.same s3)
    -- makes_object
    dsimp only [gName, List.set]
    refine tAndV_val (b := sh) (c := decide (sov = .non)) (fun Q' q' => ⟨_, rfl, q'⟩) (fun _ Q' q' => ⟨_, rfl, q'⟩) ?_
    rw [esv]
    -- shows
    generalize hmk : (sh && decide (s = .non)) = mk at *
    dsimp only [gName, List.set]
    refine tIf_ex (b := mk) (fun v H' => Same H2 H' ∧ srcR H' v (if mk = true then .obj (S.o + 1) else s)) (fun Q' q' => ⟨_, rfl, _, rfl, q'⟩) (fun e Q' q' => ?_) (fun e Q' q' => ?_) ?_
    · refine ⟨_, rfl, x, _, _, _, _, rfl, S3.hx, cl, a6, rfl, S.o, 1, rfl, rfl, (by show 2 ≤ sizeLine; decide), fun q hq => q' _ _ ⟨Same.new hq, ?_⟩⟩
      rw [if_pos e]
      exact ⟨q, rfl, upd_same⟩
    · exact ⟨_, rfl, q' _ _ ⟨Same.refl _, by rw [if_neg (by rw [e]; exact Bool.false_ne_true)]; exact hs3⟩⟩
    rintro showsV H4 ⟨s4, hsv⟩
    generalize hs' : (if mk = true then Src.obj (S.o + 1) else s) = s' at *
    have wfN : ∀ k : Int, 0 ≤ k → k < c → WfP (newPg r sh s' ix k) := fun k k0 k1 => by
      have e0 : mk = true → sh = true ∧ s = .non := fun e => by
        rw [e] at hmk
        rw [Bool.and_eq_true] at hmk
        exact ⟨hmk.1, of_decide_eq_true hmk.2⟩
      have e1 : s' = .non → s = .non ∧ mk = false := fun e => by
        cases em : mk with
        | true => rw [em, if_pos rfl] at hs'; rw [← hs'] at e; cases e
        | false => rw [em, if_neg Bool.false_ne_true] at hs'; exact ⟨hs'.trans e, rfl⟩
      refine ⟨fun z e => ?_, fun j e => ?_, fun e => ⟨ix + k, if_neg e, by omega, ?_⟩, fun e => if_pos e, okRts hrt, fun n e => ?_⟩
      · obtain ⟨e2, e3⟩ := e1 e
        have z' : sh = true := z
        rw [z', e2, e3] at hmk
        cases hmk
      · cases em : mk with
        | true => exact (e0 em).1
        | false =>
          rw [em, if_neg Bool.false_ne_true] at hs'
          exact (hob j (hs'.trans e)).1
      · by_cases e4 : s = .non
        · have : ix ≤ 0 := by rw [if_pos e4] at x1; exact x1
          omega
        · rw [if_neg e4] at x1
          omega
      · cases em : mk with
        | true =>
          rw [em, if_pos rfl] at hs'
          have : s' = .file n := e
          rw [← hs'] at this
          cases this
        | false =>
          rw [em, if_neg Bool.false_ne_true] at hs'
          exact hS.okName (hfn n (hs'.trans e))
    -- pages
    dsimp only [gName, List.set]
    refine ⟨_, rfl, _, rfl, _, rfl, _, rfl, _, rfl, _, rfl, Nat.zero_le _, fun q0 hq0 => ?_⟩
    have s5 := s4.trans (Same.new (o := .tup []) hq0)
    refine ⟨_, rfl, x, wh, S, τ, _, rfl, S3.same s5, ?_⟩
    intro y dy hy hdy ne
    refine ⟨y, dy, _, _, _, _, _, _, _, rfl, upd_same, fun H5 b5 pg => ⟨rfl, ?_⟩⟩
    have s6 := same_made hy hdy b5
    refine ⟨f, c, y, r, sh, showsV, s', ix, q0, rfl, pg, hsv.keep (ImmK.same ((Same.new hq0).trans s6)), s6 _ _ upd_same, by omega, by omega, wfN, fun q ls H6 s7 hq l6 rel => ?_⟩
    have s8 := (s3.trans s5).trans (s6.trans s7)
    have S8 := hS.same s8
    have hd8 := s8 _ _ hdk
    have nq : q ≠ d := (ne_of_none (((s3.trans s5).trans s6) _ _ hdk) hq).symm
    have tq : τ q = none := hS.fresh (Same.free ((s3.trans s5).trans s6) hq)
    have lt : tkvs.length ≤ 512 := tdi.len fun i' hi' => by
      have := (tpg i').low hi'
      omega
    have ll : ls.length ≤ 512 := by
      have := rel.length
      unfold newCh at this
      rw [List.length_map, List.length_range] at this
      omega
    -- the charge
    dsimp only [gName, List.set]
    refine ⟨_, rfl, fun u0 hu0 => ?_⟩
    have s80 := Same.new (o := .dK []) hu0
    have hd80 := s80 _ _ hd8
    have l60 := s80 _ _ l6
    have hu00 : (upd H6 u0 (.dK [])) u0 = some (.dK []) := upd_same
    generalize upd H6 u0 (.dK []) = H60 at *
    refine ⟨_, rfl, fun u hu => ?_⟩
    have nd : d ≠ u := ne_of_none hd80 hu
    have nqu : q ≠ u := ne_of_none l60 hu
    refine ⟨_, rfl, d, tkvs, rfl, nd, by rw [upd_ne nd]; exact hd80, upd_same, _, rfl, q, ls, rfl, nqu, by rw [upd_ne nqu, upd_ne nqu]; exact l60, upd_same, Nat.le_trans (by omega : tkvs.length + ls.length ≤ 10000) (by decide), ?_⟩
    rw [upd_upd, upd_upd]
    have n0u : u0 ≠ u := ne_of_none hu00 hu
    have s90 := Same.new (o := .dK (mergeK (mergeK [] tkvs) ls)) hu
    have nq0 : q ≠ u0 := ne_of_none l6 hu0
    have hu0H : H6 u0 = none := hu0
    refine ⟨s90 _ _ hu00, [(Sum.inl i, V.ref u)], rfl, (by show 1 ≤ 15; decide), fun e he => ?_⟩
    have s9 : Same H6 (upd (upd (upd H60 u (.dK (mergeK (mergeK [] tkvs) ls))) u0 (.dK (mergeK [] [(Sum.inl i, V.ref u)]))) e (.dK [])) := fun b o eb => by
      have b0 : b ≠ u0 := ne_of_none eb hu0H
      rw [upd_ne (ne_of_none (show (upd (upd H60 u (.dK (mergeK (mergeK [] tkvs) ls))) u0 (.dK (mergeK [] [(Sum.inl i, V.ref u)]))) b = some o by rw [upd_ne b0]; exact s90 _ _ (s80 _ _ eb)) he), upd_ne b0]
      exact s90 _ _ (s80 _ _ eb)
    refine ⟨x, wh, S, τ, _, _, _, rfl, S8.same s9, ?_⟩
    have S10 := S8.same s9
    have l10 := s9 _ _ l6
    have rel10 := rel.keep (ImmK.same s9)
    have s10 := s8.trans s9
    generalize hH7 : upd (upd (upd H60 u (.dK (mergeK (mergeK [] tkvs) ls))) u0 (.dK (mergeK [] [(Sum.inl i, V.ref u)]))) e (.dK []) = H7 at *
    clear hH7 he hu nd nqu s9 s7 hq l6 rel b5 s6 hy hdy ne s90 n0u hu00 l60 hd80 s80 hu0 hu0H nq0
    -- the number of objects
    have et := cntS_tabs (S := S) (S' := { S with o := if mk = true then S.o + 1 else S.o }) rfl
    dsimp only
    refine tIfS_ex (b := mk) (fun σ' H' => σ' = [some (V.ref x), some (.int i), some (.int c), some (.str r), some (.bl sh), some sov, some (.int ix), some av, some (.ref d), some (.int f), some (.bl mk), some showsV, some (.ref q)] ∧ Go τ H7 τ H' ∧ Sr A H' x wh { S with o := if mk = true then S.o + 1 else S.o } τ) (fun Q' q' => ⟨_, rfl, _, rfl, q'⟩) (fun e D' q' => ?_) (fun e D' q' => ?_) ?_
    · have e0 : sh = true ∧ s = .non := by
        rw [e] at hmk
        rw [Bool.and_eq_true] at hmk
        exact ⟨hmk.1, of_decide_eq_true hmk.2⟩
      have lt1000 := k13 e0.1 e0.2
      refine ⟨_, rfl, x, _, _, _, _, rfl, S10.hx, cl, a6, rfl, S.o, 1, rfl, rfl, _, _, S10.hx, (by show 18 < 1000; decide), q' _ _ ⟨rfl, Go.upd (by rw [hS.tx]; simp) S10.hx, ?_⟩⟩
      rw [if_pos e]
      have := S10.put (n' := S.n) (o' := S.o + 1) (by omega) (by omega)
      have et' := cntS_tabs (S := S) (S' := { S with o := S.o + 1 }) rfl
      show SyA _ _ _ _ _ _ _ _ (cntS { S with o := S.o + 1 })
      rw [← et']
      exact this
    · refine q' _ _ ⟨rfl, Go.refl _ _, ?_⟩
      rw [if_neg (by rw [e]; exact Bool.false_ne_true)]
      exact S10
    rintro _ H8 ⟨rfl, go8, S11⟩
    have tabs8 : ({ S with o := if mk = true then S.o + 1 else S.o } : Sys).tabs i = some T := eT
    have im8 : ImmK H7 H8 := S10.imm go8
    refine ⟨_, rfl, _, rfl, _, rfl, x, wh, _, τ, i, q, ls, _, T, rfl, S11, tabs8, go8.fr _ _ tq l10, tq, rel10.keep im8, newCh_nod _ _ _, fun z hz => ?_, fun z hz g eg j ej => ?_, fun H9 τ9 go9 S12 => ?_⟩
    · obtain ⟨k, hk, rfl⟩ := newCh_mem hz
      simp only
      omega
    · obtain ⟨k, hk, rfl⟩ := newCh_mem hz
      cases eg
      have ej' : s' = .obj j := ej
      cases em : mk with
      | true =>
        rw [em, if_pos rfl] at hs'
        rw [← hs'] at ej'
        cases ej'
        have := hS.bo
        simp only [if_pos]
        omega
      | false =>
        rw [em, if_neg Bool.false_ne_true] at hs'
        obtain ⟨_, i', hc⟩ := hob j (hs'.trans ej')
        have := hS.cntPos hc
        simp only [if_neg Bool.false_ne_true]
        omega
    · refine ⟨_, rfl, x, wh, _, τ9, rfl, S12, fun H10 τ10 go10 S13 => ⟨_, rfl, k14 H10 τ10 (((Go.same s10).trans go8).trans (go9.trans go10)) ?_⟩⟩
      have eT2 : appT T (newCh f c.toNat fun k => newPg r sh s' ix (k : Int)) = mapT T f c r sh s' ix := by
        rw [appT_new, Int.toNat_of_nonneg (by omega)]
      rw [eT2] at S13
      have eS : mapS S i T f c r sh s ix = { ({ S with o := if mk = true then S.o + 1 else S.o } : Sys).setTab i (some (mapT T f c r sh s' ix)) with n := S.n + 1 } := by
        unfold mapS
        simp only [hmk, hs']
      rw [eS]
      exact S13
end
end My
set_option Elab.async false
set_option linter.all false
set_option maxRecDepth 100000
set_option maxHeartbeats 4000000
namespace My
open PySem L2
local macro_rules | `(tactic| walk_at "ds") => `(tactic| dsimp only [tSeq, tIfS, tTest, tB, tAnd, tOr, tNot, tAndV, tOrV, tNotV, tIf, tIsN, tNotN, tOp, tUn, tChain, rI, rI0, rU, tC, tCB, tCons, tNil, tAsg, gName, gSub, tRet, tRetN, tNext, tDrop, tLst, tTup, rIxL, rIxT, rSetL, tVar, tFld, tCall, tDGet, tDIn, tDNotIn, tNever, L2.start, List.map, List.replicate, List.length, List.append, List.cons_append, List.nil_append, List.set, Nat.sub])
local macro_rules | `(tactic| walk_at "hp") => `(tactic| first | assumption | exact upd_same | (refine Eq.trans (upd_ne (by first | assumption | (apply Ne.symm; assumption))) ?_; walk_at "hp"))
local macro_rules | `(tactic| walk_at "sd") => `(tactic| first
  | (show (_ : Int) ≠ 0; omega)
  | (refine (show CDivN _ _ from ⟨?_, ?_⟩) <;> omega)
  | (show CPow _ _; refine ⟨by omega, by omega, by omega⟩)
  | (show CMul _ _; exact Or.inl ⟨by omega, by omega⟩)
  | (show CMul _ _; exact Or.inr ⟨by omega, by omega⟩))
local macro_rules | `(tactic| walk_at "st") => `(tactic| first
  | refine ⟨_, rfl, ?_⟩
  | refine ⟨_, _, rfl, rfl, (by walk_at "sd"), ?_⟩
  | refine ⟨_, _, rfl, rfl, ?_⟩
  | refine ⟨_, _, _, _, rfl, rfl, SqL.of (by walk_at "hp"), rfl, ?_⟩
  | refine ⟨_, _, _, _, rfl, rfl, (by walk_at "hp"), rfl, ?_⟩
  | refine .inl ⟨_, rfl, ?_⟩
  | refine ⟨_, _, _, _, _, rfl, (by walk_at "hp"), (by assumption), (by assumption), rfl, ?_⟩
  | refine ⟨_, _, rfl, .inl (SqL.of (by walk_at "hp")), ?_⟩)
local macro_rules | `(tactic| walk_at "go") => `(tactic| repeat (first | walk_at "st" | (walk_at "ds"; walk_at "st")))
local macro_rules | `(tactic| walk_at "ni") => `(tactic| dsimp (config := { proj := false }) only [tNil, List.cons_append, List.nil_append])
section
variable {P : Program} {w : World} {K : PySem.W.Frag} {mg : Str → Option Value} {base : Heap} {A : Adr}
def spUnmap (A : Adr) : Sp := fun vs H Q E => ∃ (x : Addr) (wh : Wh) (S : Sys) (τ : Tm) (who fv cv : V), vs = [.ref x, who, fv, cv] ∧ Sr A H x wh S τ ∧ (AnyV H who ∧ AnyV H fv ∧ AnyV H cv) ∧
  ((∀ i, who = .int i → S.tabs i = none) → Rz A.c_NoProcess "process" who H E) ∧ ∀ i T, who = .int i → S.tabs i = some T →
  (inR 0 511 fv = false → Rz A.c_NoPages "part" (.str "first") H E) ∧ ∀ f, fv = .int f → 0 ≤ f → f ≤ 511 →
  (inR 1 (512 - f) cv = false → Rz A.c_NoPages "part" (.str "count") H E) ∧ ∀ c, cv = .int c → 1 ≤ c → c ≤ 512 - f →
  ∀ H' τ', Go τ H τ' H' → Sr A H' x wh (unmS S i T f c) τ' → Q .non H'
theorem ok_unmap (G : Txt K mg A) : FnOk P w K mg base (L2.CX P w) 5 A.a_unmap A.fd_unmap p_unmap (spUnmap A) := by
  refine G.f_unmap.okX sc_unmap (fun vs H Q E h => ?_) (fun cdv A' outer s H vs Q E hr h => ?_)
  · obtain ⟨x, wh, S, τ, who, fv, cv, rfl, _⟩ := h
    rfl
  · obtain ⟨x, wh, S, τ, who, fv, cv, rfl, hS, ⟨h1, h2, h3⟩, k1, k2⟩ := h
    refine ⟨_, (pss_cons (ps_set (i := 4) sc_unmap.nd rfl (Or.inr rfl) (pe_call (ok_table_of G) (hr.mono (by decide)) rfl G.g_table_of G.k_table_of G.bi_table_of .nil (passes_call (takes_of rfl rfl rfl rfl) (fun _ _ _ _ z => z)) (pa_cons (pv 0) (pa_cons (pv 1) pa_nil))))
  (pss_cons (ps_set (i := 5) sc_unmap.nd rfl (Or.inl rfl) (pe_call (ok_numbers_of G) (hr.mono (by decide)) rfl G.g_numbers_of G.k_numbers_of G.bi_numbers_of .nil (passes_call (takes_of rfl rfl rfl rfl) (fun _ _ _ _ z => z)) (pa_cons (pv 2) (pa_cons (pv 3) pa_nil))))
  (pss_cons (ps_expr (pe_call (ok_replace_pages G) (hr.mono (by decide)) rfl G.g_replace_pages G.k_replace_pages G.bi_replace_pages .nil pass0 (pa_cons (pv 0) (pa_cons (pv 1) (pa_cons (pe_dc (own := [("number", 6)]) (g := gName 6) rfl sc_unmap.nd (pi_list (pv 5)) (blkOk_by (own := [("number", 6)]) (N := n_unmap) (sc := defScope s_unmap) (by decide +kernel)) (fun _ _ _ _ _ => pg_name (i := 6) sc_unmap.nd rfl (Or.inl rfl)) (fun _ _ _ _ _ => pts_one (pt_cmp (pc_din (hu_of hr) (pv 6) (pv 4)))) (fun _ _ _ _ _ => (pv 6)) (fun _ _ _ _ _ => pe_non)) pa_nil)))))
  (pss_one (ps_expr (pe_call (ok_end_step G) (hr.mono (by decide)) rfl G.g_end_step G.k_end_step G.bi_end_step .nil pass0 (pa_cons (pv 0) pa_nil))))))), ?_⟩
    refine ⟨_, rfl, _, rfl, x, wh, S, τ, _, who, rfl, hS, h1, fun i d e hd => ?_, k1⟩
    subst e
    obtain ⟨T, eT, _⟩ := hS.tab hd
    obtain ⟨bi, td, tkvs, tf, hdk, tdi, tpg⟩ := hS.tabE hd eT
    obtain ⟨k3, k4⟩ := k2 i T rfl eT
    refine ⟨_, rfl, _, rfl, fv, cv, rfl, h2, h3, k3, fun f ef f0 f1 => ?_⟩
    obtain ⟨k5, k6⟩ := k4 f ef f0 f1
    refine ⟨k5, fun c ec c0 c1 q H1 eH hq => ?_⟩
    have k7 := k6 c ec c0 c1
    clear k1 k2 k3 k4 k5 k6
    have hq1 : H1 q = some (.lst (rgV f (f + c))) := by rw [eH, upd_same]
    have s1 : Same H H1 := by rw [eH]; exact Same.new hq
    have hd1 := s1 _ _ hdk
    have ec' : ((c.toNat : Nat) : Int) = c := Int.toNat_of_nonneg (by omega)
    refine ⟨_, rfl, _, rfl, _, rfl, q, rfl, ⟨_, SqL.of hq1⟩, fun D hD => ?_⟩
    refine dc_walk (walk_list (K := K) (a := q) (xs := rgV f (f + c))) (fun j Z => Same H1 Z ∧ ∃ ls, Z D = some (.dK ls) ∧ LsR A.c_Page H1 ls (delCh T f j))
      ⟨Same.new hD, [], upd_same, True.intro⟩ (fun j Z _ z => SqL.of (z.1 _ _ hq1)) ?_ ?_
    · rintro j y Z _ hj ⟨sz, ls, z1, z2⟩ ⟨rfl, hy⟩
      have ey := rg_at hj hy
      subst ey
      refine ⟨rfl, ?_⟩
      refine ⟨_, rfl, _, rfl, _, _, rfl, DGet.k (k := Sum.inl (f + (j : Nat))) (sz _ _ hd1), _, rfl, ?_⟩
      rw [tdi.val, (tpg _).isSome]
      have ds := delCh_succ T f j
      refine iteB (fun e => ?_) (fun e => ?_)
      · rw [if_pos e] at ds
        have vn : valV ls (Sum.inl (f + (j : Nat))) = none := z2.val_none fun z hz e => by
          obtain ⟨k', hk', rfl, _⟩ := delCh_mem hz
          simp only at e
          omega
        have ll := z2.length
        have dl := delCh_length T f j
        rw [rg_len] at hj
        refine ⟨_, rfl, ls, Sum.inl (f + (j : Nat)), rfl, z1, Nat.lt_of_le_of_lt (by omega : ls.length ≤ 10000) (by decide), fun b o ho => ?_, _, upd_same, ?_⟩
        · rw [upd_ne (ne_of_none ho hD)]
          exact sz _ _ ho
        · rw [putK_new _ vn, ds]
          exact LsR.snoc (kv := (Sum.inl (f + (j : Int)), V.non)) (q := (f + (j : Int), none)) rfl rfl z2
      · rw [if_neg (by rw [e]; exact Bool.false_ne_true), List.append_nil] at ds
        exact ⟨sz, ls, z1, by rw [ds]; exact z2⟩
    · rintro Z ⟨sz, ls, z1, z2⟩
      rw [rg_len] at z2
      have s2 := s1.trans sz
      have tD : τ D = none := hS.fresh (Same.free s1 hD)
      refine ⟨x, wh, S, τ, i, D, ls, _, T, rfl, hS.same s2, eT, z1, tD, z2.keep (ImmK.same sz), delCh_nod _ _ _, fun z hz => ?_, fun z hz g eg => ?_, fun H2 τ2 go2 S2 => ?_⟩
      · obtain ⟨k, hk, rfl, _⟩ := delCh_mem hz
        simp only
        omega
      · obtain ⟨k, hk, rfl, _⟩ := delCh_mem hz
        cases eg
      · refine ⟨_, rfl, x, wh, _, τ2, rfl, S2, fun H3 τ3 go3 S3 => k7 H3 τ3 ((Go.same s2).trans (go2.trans go3)) ?_⟩
        rw [appT_del, ec'] at S3
        exact S3
def spStamp (A : Adr) : Sp := fun vs H Q _ => ∃ (p : Addr) (r s so i f h : V) (n : Int), vs = [.ref p, .int n] ∧ PgAt A.c_Page H p r s so i f h ∧ ∀ y H', Same H H' → PgAt A.c_Page H' y r s so i f h → Q (.ref y) H'
theorem ok_with_stamp (G : Txt K mg A) : FnOk P w K mg base CX0 3 A.a_with_stamp A.fd_with_stamp p_with_stamp (spStamp A) := by
  refine G.f_with_stamp.ok sc_with_stamp (fun vs H Q E h => ?_) (fun cdv A' outer s H vs Q E hr h => ?_)
  · obtain ⟨p, r, s, so, i, f, h, n, rfl, _⟩ := h
    rfl
  · obtain ⟨p, r, s, so, i, f, h, n, rfl, ⟨dx, e⟩, k⟩ := h
    refine ⟨_, (pss_one (ps_ret (pe_make G.mk_Page (ok_Page_init G) (hr.mono (by decide)) rfl G.g_Page G.bi_Page_init .nil pass0 (pa_cons (pe_fld (pv 0) rfl) (pa_cons (pe_fld (pv 0) rfl) (pa_cons (pe_fld (pv 0) rfl) (pa_cons (pe_fld (pv 0) rfl) (pa_cons (pe_fld (pv 0) rfl) (pa_cons (pe_fld (pv 0) rfl) (pa_cons (pv 1) pa_nil)))))))))), ?_⟩
    refine ⟨_, rfl, p, _, _, _, _, rfl, e, G.cl_Page, G.n_Page_rights, rfl, _, rfl, p, _, _, _, _, rfl, e, G.cl_Page, G.n_Page_shared, rfl, _, rfl, p, _, _, _, _, rfl, e, G.cl_Page, G.n_Page_source, rfl,
      _, rfl, p, _, _, _, _, rfl, e, G.cl_Page, G.n_Page_index, rfl, _, rfl, p, _, _, _, _, rfl, e, G.cl_Page, G.n_Page_flags, rfl, _, rfl, p, _, _, _, _, rfl, e, G.cl_Page, G.n_Page_held, rfl, _, rfl, ?_⟩
    intro y dy hy hdy ne
    exact ⟨y, dy, _, _, _, _, _, _, _, rfl, upd_same, fun H5 b5 pg => ⟨rfl, k y H5 (same_made hy hdy b5) pg⟩⟩
def okTo (f c : Int) : V → Bool
  | .int t => decide (0 ≤ t ∧ t ≤ 512 - c) && (decide (t + c ≤ f) || decide (f + c ≤ t))
  | _ => false
def spMove (A : Adr) : Sp := fun vs H Q E => ∃ (x : Addr) (wh : Wh) (S : Sys) (τ : Tm) (who fv cv tv : V), vs = [.ref x, who, fv, cv, tv] ∧ Sr A H x wh S τ ∧ (AnyV H who ∧ AnyV H fv ∧ AnyV H cv ∧ AnyV H tv) ∧
  ((∀ i, who = .int i → S.tabs i = none) → Rz A.c_NoProcess "process" who H E) ∧ ∀ i T, who = .int i → S.tabs i = some T →
  (inR 0 511 fv = false → Rz A.c_NoPages "part" (.str "first") H E) ∧ ∀ f, fv = .int f → 0 ≤ f → f ≤ 511 →
  (inR 1 (512 - f) cv = false → Rz A.c_NoPages "part" (.str "count") H E) ∧ ∀ c, cv = .int c → 1 ≤ c → c ≤ 512 - f →
  (okTo f c tv = false → Rz A.c_NoPages "part" (.str "to") H E) ∧ (okTo f c tv = true →
  (∀ n, f ≤ n → n < f + c → mpd T n = false → (∀ j, f ≤ j → j < n → mpd T j = true) → Rz A.c_NotMapped "page" (.int n) H E) ∧
  ∀ t, tv = .int t → (∀ j, f ≤ j → j < f + c → mpd T j = true) → ∀ H' τ', Go τ H τ' H' → Sr A H' x wh (movS S i T f c t) τ' → Q .non H')
theorem ok_move (G : Txt K mg A) : FnOk P w K mg base (L2.CX P w) 5 A.a_move A.fd_move p_move (spMove A) := by
  refine G.f_move.okX sc_move (fun vs H Q E h => ?_) (fun cdv A' outer s H vs Q E hr h => ?_)
  · obtain ⟨x, wh, S, τ, who, fv, cv, tv, rfl, _⟩ := h
    rfl
  · obtain ⟨x, wh, S, τ, who, fv, cv, tv, rfl, hS, ⟨h1, h2, h3, h4⟩, k1, k2⟩ := h
    refine ⟨_, (pss_cons (ps_set (i := 5) sc_move.nd rfl (Or.inl rfl) (pe_call (ok_table_of G) (hr.mono (by decide)) rfl G.g_table_of G.k_table_of G.bi_table_of .nil (passes_call (takes_of rfl rfl rfl rfl) (fun _ _ _ _ z => z)) (pa_cons (pv 0) (pa_cons (pv 1) pa_nil))))
  (pss_cons (ps_set (i := 6) sc_move.nd rfl (Or.inl rfl) (pe_call (ok_numbers_of G) (hr.mono (by decide)) rfl G.g_numbers_of G.k_numbers_of G.bi_numbers_of .nil (passes_call (takes_of rfl rfl rfl rfl) (fun _ _ _ _ z => z)) (pa_cons (pv 2) (pa_cons (pv 3) pa_nil))))
  (pss_cons (ps_expr (pe_call (ok_require G) (hr.mono (by decide)) rfl G.g_require G.k_require G.bi_require .nil (passes_call (takes_of rfl rfl rfl rfl) (fun _ _ _ _ z => z)) (pa_cons (pe_and (pe_call (ok_is_integer G) (hr.mono (by decide)) rfl G.g_is_integer G.k_is_integer G.bi_is_integer .nil pass0 (pa_cons (pv 4) (pa_cons pe_int (pa_cons (pe_op op_sub (pe_glob (v := .int 512) rfl G.g_PAGES ⟨_, rfl⟩) (pv 3)) pa_nil)))) (pe_one (pe_or (pe_cmpR op_le (pe_op op_add (pv 4) (pv 3)) (pv 2) (nomark _)) (pe_one (pe_cmpR op_le (pe_op op_add (pv 2) (pv 3)) (pv 4) (nomark _)))))) (pa_cons pe_str pa_nil))))
  (pss_cons (ps_expr (pe_call (ok_require_mapped G) (hr.mono (by decide)) rfl G.g_require_mapped G.k_require_mapped G.bi_require_mapped .nil (passes_call (takes_of rfl rfl rfl rfl) (fun _ _ _ _ z => z)) (pa_cons (pv 5) (pa_cons (pv 6) pa_nil))))
  (pss_cons (ps_setDc (i := 7) (own := [("number", 8)]) (g := gName 8) (tt := tYes) rfl sc_move.nd rfl rfl (sw_dict rfl rfl rfl (by decide +kernel)) (pi_list (pv 6)) (blkOk_by (own := [("number", 8)]) (N := n_move) (sc := defScope s_move) (by decide +kernel)) (fun _ _ _ _ _ => pg_name (i := 8) sc_move.nd rfl (Or.inl rfl)) (fun _ _ _ _ _ => pts_nil) (fun _ _ _ _ _ => (pv 8)) (fun _ _ _ _ _ => pe_non))
  (pss_cons (ps_for (passes_of rfl) rfl (pi_list (pv 6)) (pg_name (i := 8) sc_move.nd rfl (Or.inl rfl)) (pss_one (ps_dput (hu_of hr) (pv 7) (pe_op op_sub (pe_op op_add (pv 4) (pv 8)) (pv 2)) (pe_call (ok_with_stamp G) (hr.mono (by decide)) rfl G.g_with_stamp G.k_with_stamp G.bi_with_stamp .nil pass0 (pa_cons (pe_dget (hu_of hr) (pv 5) (pv 8) (fun _ _ => rfl)) (pa_cons (pe_call (ok_this_step G) (hr.mono (by decide)) rfl G.g_this_step G.k_this_step G.bi_this_step .nil pass0 (pa_cons (pv 0) pa_nil)) pa_nil))) rfl)))
  (pss_cons (ps_expr (pe_call (ok_replace_pages G) (hr.mono (by decide)) rfl G.g_replace_pages G.k_replace_pages G.bi_replace_pages .nil pass0 (pa_cons (pv 0) (pa_cons (pv 1) (pa_cons (pv 7) pa_nil)))))
  (pss_one (ps_expr (pe_call (ok_end_step G) (hr.mono (by decide)) rfl G.g_end_step G.k_end_step G.bi_end_step .nil pass0 (pa_cons (pv 0) pa_nil))))))))))), ?_⟩
    refine ⟨_, rfl, _, rfl, x, wh, S, τ, _, who, rfl, hS, h1, fun i d e hd => ?_, k1⟩
    subst e
    obtain ⟨T, eT, _⟩ := hS.tab hd
    obtain ⟨bi, td, tkvs, tf, hdk, tdi, tpg⟩ := hS.tabE hd eT
    obtain ⟨k3, k4⟩ := k2 i T rfl eT
    refine ⟨_, rfl, _, rfl, fv, cv, rfl, h2, h3, k3, fun f ef f0 f1 => ?_⟩
    obtain ⟨k5, k6⟩ := k4 f ef f0 f1
    refine ⟨k5, fun c ec c0 c1 q H1 eH hq => ?_⟩
    obtain ⟨k7, k8⟩ := k6 c ec c0 c1
    clear k1 k2 k3 k4 k5 k6
    subst ef ec
    have hq1 : H1 q = some (.lst (rgV f (f + c))) := by rw [eH, upd_same]
    have s1 : Same H H1 := by rw [eH]; exact Same.new hq
    have hd1 := s1 _ _ hdk
    have ec' : ((c.toNat : Nat) : Int) = c := Int.toNat_of_nonneg (by omega)
    -- to
    dsimp only [gName, List.set]
    refine tAndV_val (b := inR 0 (512 - c) tv) (c := okTo f c tv) (fun Q' q' => ⟨_, rfl, _, rfl, _, _, rfl, rfl, tv, 0, 512 - c, rfl, h4.same s1, q'⟩) (fun e Q' q' => ?_) ?_
    · obtain ⟨t, rfl, t0, t1⟩ := inR_int e
      have eo : okTo f c (.int t) = (decide (t + c ≤ f) || decide (f + c ≤ t)) := by
        show (decide (0 ≤ t ∧ t ≤ 512 - c) && _) = _
        rw [decide_eq_true ⟨t0, t1⟩, Bool.true_and]
      rw [eo] at q'
      exact tOrV_val (b := decide (t + c ≤ f)) (c := decide (f + c ≤ t)) (fun Q2 q2 => ⟨_, rfl, _, rfl, _, _, rfl, rfl, _, rfl, _, _, rfl, rfl, q2⟩) (fun _ Q2 q2 => ⟨_, rfl, _, rfl, _, _, rfl, rfl, _, rfl, _, _, rfl, rfl, q2⟩) q'
    have eo : (inR 0 (512 - c) tv && okTo f c tv) = okTo f c tv := by
      cases tv <;> first | rfl | skip
      rename_i t
      show (decide (0 ≤ t ∧ t ≤ 512 - c) && (decide (0 ≤ t ∧ t ≤ 512 - c) && _)) = (decide (0 ≤ t ∧ t ≤ 512 - c) && _)
      cases decide (0 ≤ t ∧ t ≤ 512 - c) <;> rfl
    rw [eo]
    refine ⟨_, _, rfl, fun z => ?_, fun z => (k7 z).same s1⟩
    obtain ⟨k9, k10⟩ := k8 z
    obtain ⟨t, rfl⟩ : ∃ t, tv = V.int t := by
      cases tv <;> first | exact ⟨_, rfl⟩ | (cases z; done)
    have z' : decide (0 ≤ t ∧ t ≤ 512 - c) = true ∧ (decide (t + c ≤ f) || decide (f + c ≤ t)) = true := by
      rw [← Bool.and_eq_true]
      exact z
    have tr := of_decide_eq_true z'.1
    have dj : t + c ≤ f ∨ f + c ≤ t := by
      rcases Bool.or_eq_true _ _ ▸ z'.2 with y | y
      · exact .inl (of_decide_eq_true y)
      · exact .inr (of_decide_eq_true y)
    -- all are mapped
    refine ⟨_, rfl, _, rfl, d, q, tkvs, mpd T, f, c, rfl, hd1, fun k => ?_, hq1, fun am => ?_, fun n n0 n1 n2 n3 => (k9 n n0 n1 n2 n3).same s1⟩
    · rw [tdi.val]
      exact (tpg k).isSome
    have k11 := k10 t rfl am
    clear k7 k8 k9 k10
    have dj' : t + ((c.toNat : Nat) : Int) ≤ f ∨ f + ((c.toNat : Nat) : Int) ≤ t := by rw [ec']; exact dj
    -- changes
    refine ⟨_, rfl, q, rfl, ⟨_, SqL.of hq1⟩, fun D hD => ?_⟩
    refine dc_walk (walk_list (K := K) (a := q) (xs := rgV f (f + c))) (fun j Z => Same H1 Z ∧ ∃ ls, Z D = some (.dK ls) ∧ LsR A.c_Page H1 ls (nonCh f j))
      ⟨Same.new hD, [], upd_same, True.intro⟩ (fun j Z _ z => SqL.of (z.1 _ _ hq1)) ?_ ?_
    · rintro j y Z _ hj ⟨sz, ls, z1, z2⟩ ⟨rfl, hy⟩
      have ey := rg_at hj hy
      subst ey
      rw [rg_len] at hj
      refine ⟨rfl, ?_⟩
      dsimp only [tYes]
      refine iteT ?_
      have vn : valV ls (Sum.inl (f + (j : Nat))) = none := z2.val_none fun z hz e => by
        obtain ⟨k', hk', rfl⟩ := nonCh_mem hz
        simp only at e
        omega
      have ll := z2.length
      have dl : (nonCh f j).length = j := by unfold nonCh; rw [List.length_map, List.length_range]
      refine ⟨_, rfl, ls, Sum.inl (f + (j : Nat)), rfl, z1, Nat.lt_of_le_of_lt (by omega : ls.length ≤ 10000) (by decide), fun b o ho => ?_, _, upd_same, ?_⟩
      · rw [upd_ne (ne_of_none ho hD)]
        exact sz _ _ ho
      · rw [putK_new _ vn, nonCh_succ]
        exact LsR.snoc (kv := (Sum.inl (f + (j : Int)), V.non)) (q := (f + (j : Int), none)) rfl rfl z2
    · rintro Z ⟨sz, ls, z1, z2⟩
      rw [rg_len] at z2
      have lq : Z q = some (.lst (rgV f (f + c))) := sz _ _ hq1
      refine ⟨_, rfl, q, rfl, ⟨_, SqL.of lq⟩, for_list (K := K) (a := q) (xs := rgV f (f + c)) (fun j σ Y => (∃ c7, σ = [some (.ref x), some (.int i), some (.int f), some (.int c), some (.int t), some (.ref d), some (.ref q), some (.ref D), c7]) ∧ Same H1 Y ∧ ∃ ls, Y D = some (.dK ls) ∧ LsR A.c_Page Y ls (nonCh f c.toNat ++ cpyCh T f t j))
        ⟨⟨_, rfl⟩, sz, ls, z1, by rw [show cpyCh T f t 0 = [] from rfl, List.append_nil]; exact z2.keep (ImmK.same sz)⟩ (fun j σ Y _ y => SqL.of (y.2.1 _ _ hq1)) ?_ ?_⟩
      · rintro j y σ Y hy ⟨⟨c7, rfl⟩, sy, ls2, y1, y2⟩
        have hj : j < (rgV f (f + c)).length := (List.getElem?_eq_some_iff.mp hy).1
        have ey := rg_at hj hy
        subst ey
        rw [rg_len] at hj
        have hm := am (f + (j : Nat)) (by omega) (by omega)
        obtain ⟨g, eg⟩ : ∃ g, T (f + (j : Nat)) = some g := Option.isSome_iff_exists.mp hm
        have rel := tpg (f + (j : Nat))
        rw [eg] at rel
        cases ev : tf (f + (j : Nat)) with
        | none => rw [ev] at rel; exact rel.elim
        | some v =>
          rw [ev] at rel
          obtain ⟨_, wf, p', rfl, hp'⟩ := rel
          have vn : valV ls2 (Sum.inl (t + (f + (j : Nat)) - f)) = none := y2.val_none fun z hz e => by
            rcases List.mem_append.mp hz with w | w
            · obtain ⟨k', hk', rfl⟩ := nonCh_mem w
              simp only at e
              omega
            · obtain ⟨k', hk', rfl⟩ := cpyCh_mem w
              simp only at e
              omega
          have ll := y2.length
          have dl : (nonCh f c.toNat ++ cpyCh T f t j).length = c.toNat + j := by unfold nonCh cpyCh; rw [List.length_append, List.length_map, List.length_map, List.length_range, List.length_range]
          have ek : t + (f + (j : Nat)) - f = t + (j : Int) := by omega
          obtain ⟨dx, sv, fa, pe1, pe2, pe3⟩ := hp'.keep (ImmK.same (s1.trans sy))
          refine ⟨_, rfl, _, rfl, d, _, rfl, (by rw [← ev, ← tdi.val]; exact DGet.k (k := Sum.inl (f + (j : Nat))) (sy _ _ hd1)), _, rfl, x, wh, S, τ, _, rfl, hS.same (s1.trans sy), p', _, _, _, _, _, _, _, rfl, ⟨dx, pe1⟩, fun yy Y2 sY ypg => ?_⟩
          obtain ⟨dx2, pe4⟩ := ypg
          have hp2 : PgR A.c_Page Y2 yy g := ⟨dx2, sv, fa, pe4, pe2.keep (ImmK.same sY), sY _ _ pe3⟩
          have y1 := sY _ _ y1
          have y2 := y2.keep (ImmK.same sY)
          have sy := sy.trans sY
          have nDp : yy ≠ D := fun z => by rw [z, y1] at pe4; cases pe4
          have imD : ∀ {u : HO}, ImmK Y2 (upd Y2 D u) := fun {u} => ImmK.upd y1 rfl
          refine ⟨_, rfl, _, rfl, _, rfl, _, _, rfl, rfl, _, rfl, _, _, rfl, rfl, D, _, rfl, DPut.k (k := Sum.inl (t + (f + (j : Nat)) - f)) y1 (Nat.lt_of_le_of_lt (by omega : ls2.length ≤ 10000) (by decide)), ?_⟩
          refine ⟨⟨_, rfl⟩, fun b o ho => ?_, _, upd_same, ?_⟩
          · rw [upd_ne (ne_of_none ho hD)]
            exact sy _ _ ho
          · rw [putK_new _ vn, cpyCh_succ, ← List.append_assoc, ek, eg]
            exact LsR.snoc (kv := (Sum.inl (t + (j : Int)), V.ref yy)) (q := (t + (j : Int), some g)) rfl (show PgV _ _ (.ref yy) (some g) from ⟨wf, yy, rfl, hp2.keep imD⟩) (y2.keep imD)
      · rintro σ Y ⟨⟨c7, rfl⟩, sy, ls2, y1, y2⟩
        rw [rg_len] at y2
        have s2 := s1.trans sy
        have tD : τ D = none := hS.fresh (Same.free s1 hD)
        refine ⟨_, rfl, _, rfl, _, rfl, x, wh, S, τ, i, D, ls2, _, T, rfl, hS.same s2, eT, y1, tD, y2, mov_nod T dj', fun z hz => ?_, fun z hz g eg j ej => ?_, fun H2 τ2 go2 S2 => ?_⟩
        · rcases List.mem_append.mp hz with w | w
          · obtain ⟨k, hk, rfl⟩ := nonCh_mem w
            simp only
            omega
          · obtain ⟨k, hk, rfl⟩ := cpyCh_mem w
            simp only
            omega
        · rcases List.mem_append.mp hz with w | w
          · obtain ⟨k, hk, rfl⟩ := nonCh_mem w
            cases eg
          · obtain ⟨k, hk, rfl⟩ := cpyCh_mem w
            exact hS.pgOb eT eg ej
        · refine ⟨_, rfl, x, wh, _, τ2, rfl, S2, fun H3 τ3 go3 S3 => k11 H3 τ3 ((Go.same s2).trans (go2.trans go3)) ?_⟩
          rw [appT_mov T dj', ec'] at S3
          exact S3
end
end My
set_option Elab.async false
set_option linter.all false
set_option maxRecDepth 100000
set_option maxHeartbeats 4000000
namespace My
open PySem L2
local macro_rules | `(tactic| walk_at "ds") => `(tactic| dsimp only [tSeq, tIfS, tTest, tB, tAnd, tOr, tNot, tAndV, tOrV, tNotV, tIf, tIsN, tNotN, tOp, tUn, tChain, rI, rI0, rU, tC, tCB, tCons, tNil, tAsg, gName, gSub, tRet, tRetN, tNext, tDrop, tLst, tTup, rIxL, rIxT, rSetL, tVar, tFld, tCall, tDGet, tDIn, tDNotIn, tNever, L2.start, List.map, List.replicate, List.length, List.append, List.cons_append, List.nil_append, List.set, Nat.sub])
local macro_rules | `(tactic| walk_at "hp") => `(tactic| first | assumption | exact upd_same | (refine Eq.trans (upd_ne (by first | assumption | (apply Ne.symm; assumption))) ?_; walk_at "hp"))
local macro_rules | `(tactic| walk_at "sd") => `(tactic| first
  | (show (_ : Int) ≠ 0; omega)
  | (refine (show CDivN _ _ from ⟨?_, ?_⟩) <;> omega)
  | (show CPow _ _; refine ⟨by omega, by omega, by omega⟩)
  | (show CMul _ _; exact Or.inl ⟨by omega, by omega⟩)
  | (show CMul _ _; exact Or.inr ⟨by omega, by omega⟩))
local macro_rules | `(tactic| walk_at "st") => `(tactic| first
  | refine ⟨_, rfl, ?_⟩
  | refine ⟨_, _, rfl, rfl, (by walk_at "sd"), ?_⟩
  | refine ⟨_, _, rfl, rfl, ?_⟩
  | refine ⟨_, _, _, _, rfl, rfl, SqL.of (by walk_at "hp"), rfl, ?_⟩
  | refine ⟨_, _, _, _, rfl, rfl, (by walk_at "hp"), rfl, ?_⟩
  | refine .inl ⟨_, rfl, ?_⟩
  | refine ⟨_, _, _, _, _, rfl, (by walk_at "hp"), (by assumption), (by assumption), rfl, ?_⟩
  | refine ⟨_, _, rfl, .inl (SqL.of (by walk_at "hp")), ?_⟩)
local macro_rules | `(tactic| walk_at "go") => `(tactic| repeat (first | walk_at "st" | (walk_at "ds"; walk_at "st")))
local macro_rules | `(tactic| walk_at "ni") => `(tactic| dsimp (config := { proj := false }) only [tNil, List.cons_append, List.nil_append])
section
variable {P : Program} {w : World} {K : PySem.W.Frag} {mg : Str → Option Value} {base : Heap} {A : Adr}
def spAttr (A : Adr) : Sp := fun vs H Q _ => ∃ (p : Addr) (r s so i f h : V), vs = [.ref p] ∧ PgAt A.c_Page H p r s so i f h ∧ ∀ q, H q = none → Q (.ref q) (upd H q (.tup [r, s, so, i, f]))
theorem ok_attributes (G : Txt K mg A) : FnOk P w K mg base CX0 1 A.a_attributes A.fd_attributes p_attributes (spAttr A) := by
  refine G.f_attributes.ok sc_attributes (fun vs H Q E h => ?_) (fun cdv A' outer s H vs Q E hr h => ?_)
  · obtain ⟨p, r, s, so, i, f, h, rfl, _⟩ := h
    rfl
  · obtain ⟨p, r, s, so, i, f, h, rfl, ⟨dx, e⟩, k⟩ := h
    refine ⟨_, (pss_one (ps_ret (pe_tup (pa_cons (pe_fld (pv 0) rfl) (pa_cons (pe_fld (pv 0) rfl) (pa_cons (pe_fld (pv 0) rfl) (pa_cons (pe_fld (pv 0) rfl) (pa_cons (pe_fld (pv 0) rfl) pa_nil)))))))), ?_⟩
    exact ⟨_, rfl, p, _, _, _, _, rfl, e, G.cl_Page, G.n_Page_rights, rfl, _, rfl, p, _, _, _, _, rfl, e, G.cl_Page, G.n_Page_shared, rfl, _, rfl, p, _, _, _, _, rfl, e, G.cl_Page, G.n_Page_source, rfl,
      _, rfl, p, _, _, _, _, rfl, e, G.cl_Page, G.n_Page_index, rfl, _, rfl, p, _, _, _, _, rfl, e, G.cl_Page, G.n_Page_flags, rfl, (by show 5 ≤ sizeLine; decide), k⟩
def spCont (A : Adr) : Sp := fun vs H Q _ => ∃ (p1 p2 : Addr) (g1 g2 : Pg), vs = [.ref p1, .ref p2] ∧ PgR A.c_Page H p1 g1 ∧ PgR A.c_Page H p2 g2 ∧ WfP g1 ∧ WfP g2 ∧ ∀ H', Same H H' → Q (.bl (cont (some g1) (some g2))) H'
theorem ok_continues (G : Txt K mg A) : FnOk P w K mg base CX0 2 A.a_continues A.fd_continues p_continues (spCont A) := by
  refine G.f_continues.ok sc_continues (fun vs H Q E h => ?_) (fun cdv A' outer s H vs Q E hr h => ?_)
  · obtain ⟨p1, p2, g1, g2, rfl, _⟩ := h
    rfl
  · obtain ⟨p1, p2, g1, g2, rfl, ⟨dx, sv, fa, e, hs, hf⟩, h2, wf1, wf2, k⟩ := h
    refine ⟨_, (pss_cons (ps_set (i := 2) sc_continues.nd rfl (Or.inl rfl) (pe_ifExp (pt_cmpR op_isN (pe_fld (pv 0) rfl) pe_non (nomark _)) pe_non (pe_op op_add (pe_fld (pv 0) rfl) pe_int)))
  (pss_one (ps_ret (pe_cmpR (op_eqD (hu64 hr)) (pe_call (ok_attributes G) (hr.mono (by decide)) rfl G.g_attributes G.k_attributes G.bi_attributes .nil pass0 (pa_cons (pv 1) pa_nil)) (pe_tup (pa_cons (pe_fld (pv 0) rfl) (pa_cons (pe_fld (pv 0) rfl) (pa_cons (pe_fld (pv 0) rfl) (pa_cons (pv 2) (pa_cons (pe_fld (pv 0) rfl) pa_nil)))))) (nomark _))))), ?_⟩
    have esv : decide (sv = .non) = decide (g1.src = .non) := by
      cases es : g1.src with
      | non => rw [es] at hs; cases hs; rfl
      | file n => rw [es] at hs; obtain ⟨a, rfl, _⟩ := hs; rfl
      | obj j => rw [es] at hs; obtain ⟨a, rfl, _⟩ := hs; rfl
    refine tIf_val (v := ixV (nxt g1).ix) (b := decide (sv = .non)) (fun Q' q' => ⟨_, rfl, p1, _, _, _, _, rfl, e, G.cl_Page, G.n_Page_source, rfl, rfl, _, rfl, q'⟩) (fun z Q' q' => ?_) (fun z Q' q' => ?_) ?_
    · rw [esv] at z
      have ei : (nxt g1).ix = none := by show g1.ix.map _ = none; rw [wf1.no (of_decide_eq_true z)]; rfl
      rw [ei] at q'
      exact q'
    · rw [esv] at z
      obtain ⟨i, ei, _⟩ := wf1.ix (of_decide_eq_false z)
      have ei2 : (nxt g1).ix = some (i + 1) := by show g1.ix.map _ = _; rw [ei]; rfl
      rw [ei2] at q'
      rw [ei] at e
      exact ⟨_, rfl, p1, _, _, _, _, rfl, e, G.cl_Page, G.n_Page_index, rfl, _, _, rfl, rfl, q'⟩
    dsimp only [gName, List.set]
    obtain ⟨dx2, sv2, fa2, e2, hs2, hf2⟩ := h2
    refine ⟨_, rfl, p2, _, _, _, _, _, _, rfl, ⟨dx2, e2⟩, fun q hq => ?_⟩
    have s1 := Same.new (o := .tup [V.str g2.r, .bl g2.sh, sv2, ixV g2.ix, .ref fa2]) hq
    have e1 := s1 _ _ e
    refine ⟨_, rfl, p1, _, _, _, _, rfl, e1, G.cl_Page, G.n_Page_rights, rfl, _, rfl, p1, _, _, _, _, rfl, e1, G.cl_Page, G.n_Page_shared, rfl, _, rfl, p1, _, _, _, _, rfl, e1, G.cl_Page, G.n_Page_source, rfl,
      _, rfl, _, rfl, p1, _, _, _, _, rfl, e1, G.cl_Page, G.n_Page_flags, rfl, (by show 5 ≤ sizeLine; decide), fun q2 hq2 => ?_⟩
    have s2 := Same.new (o := .tup [V.str g1.r, .bl g1.sh, sv, ixV (nxt g1).ix, .ref fa]) hq2
    have im := ImmK.same (s1.trans s2)
    refine ⟨dPg g2, dPg (nxt g1), dpPg (s2 _ _ upd_same) (hs2.keep im) (im _ _ hf2 rfl), dpPg (g := nxt g1) upd_same (hs.keep im) (im _ _ hf rfl), shapedPg wf2.okR wf2.okN, shapedPg (g := nxt g1) wf1.okR wf1.okN, ?_⟩
    rw [dPg_eqv]
    exact k _ (s1.trans s2)
def spRegs (A : Adr) : Sp := fun vs H Q E => ∃ (x : Addr) (wh : Wh) (S : Sys) (τ : Tm) (cnt : Int → Int → Nat) (who : V), vs = [.ref x, who] ∧ Sa A H x wh S τ cnt ∧ AnyV H who ∧
  ((∀ i, who = .int i → S.tabs i = none) → Rz A.c_NoProcess "process" who H E) ∧ ∀ i T, who = .int i → S.tabs i = some T →
  ∀ q rows H', Same H H' → H q = none → H' q = some (.lst rows) → RowsR H' rows (regL T) → Q (.ref q) H'
theorem ok_regions (G : Txt K mg A) : FnOk P w K mg base (L2.CX P w) 4 A.a_regions A.fd_regions p_regions (spRegs A) := by
  refine G.f_regions.okX sc_regions (fun vs H Q E h => ?_) (fun cdv A' outer s H vs Q E hr h => ?_)
  · obtain ⟨x, wh, S, τ, cnt, who, rfl, _⟩ := h
    rfl
  · obtain ⟨x, wh, S, τ, cnt, who, rfl, hS, hv, k1, k2⟩ := h
    refine ⟨_, (pss_cons (ps_set (i := 2) sc_regions.nd rfl (Or.inr rfl) (pe_call (ok_table_of G) (hr.mono (by decide)) rfl G.g_table_of G.k_table_of G.bi_table_of .nil (passes_call (takes_of rfl rfl rfl rfl) (fun _ _ _ _ z => z)) (pa_cons (pv 0) (pa_cons (pv 1) pa_nil))))
  (pss_cons (ps_set (i := 3) sc_regions.nd rfl (Or.inl rfl) (pe_lst pa_nil))
  (pss_cons (ps_for (passes_of rfl) rfl (pi_list (pe_callB (call_sortedDL rfl) (by rfl) G.b_sorted (by decide +kernel) (pa_cons (pv 2) pa_nil))) (pg_name (i := 4) sc_regions.nd rfl (Or.inl rfl)) (pss_one (ps_if (PW.pt (pw_and (pt_cmp (pc_din (hu_of hr) (pe_op op_sub (pv 4) pe_int) (pv 2))) (pw_and1 (pt_val (pe_call (ok_continues G) (hr.mono (by decide)) rfl G.g_continues G.k_continues G.bi_continues .nil pass0 (pa_cons (pe_dget (hu_of hr) (pv 2) (pe_op op_sub (pv 4) pe_int) (fun _ _ => rfl)) (pa_cons (pe_dget (hu_of hr) (pv 2) (pv 4) (fun _ _ => rfl)) pa_nil))))))) (pss_one (ps_augS (pe_ix ix_list (pv 3) (pe_un un_neg pe_int) (fun _ _ => rfl)) pe_int get_list pe_int ip_add set_list)) (pss_one (ps_expr (pe_bm PySem.F.plainAttrs_list PySem.F.slot_list_append PySem.F.type_list_append mt_append (pv 3) (pa_cons (pe_lst (pa_cons (pv 4) (pa_cons pe_int pa_nil))) pa_nil)))))))
  (pss_one (ps_ret (pe_lc (own := [("first", 5), ("count", 6)]) (g := gUnl K 2 (gCons (gName 5) (gCons (gName 6) (gNil)))) (tt := tYes) rfl sc_regions.nd (pi_list (pv 3)) (blkOk_by (own := [("first", 5), ("count", 6)]) (N := n_regions) (sc := defScope s_regions) (by decide +kernel)) (fun _ _ _ _ _ => pg_unl rfl (pgs_cons (pg_name (i := 5) sc_regions.nd rfl (Or.inl rfl)) (pgs_cons (pg_name (i := 6) sc_regions.nd rfl (Or.inl rfl)) pgs_nil))) (fun _ _ _ _ _ => pts_nil) (fun _ _ _ _ _ => (pe_op (r := rCatT K) op_catT (pe_tup (pa_cons (pv 5) (pa_cons (pv 6) pa_nil))) (pe_call (ok_attributes G) (hr.mono (by decide)) rfl G.g_attributes G.k_attributes G.bi_attributes .nil pass0 (pa_cons (pe_dget (hu_of hr) (pv 2) (pv 5) (fun _ _ => rfl)) pa_nil)))))))))), ?_⟩
    refine ⟨_, rfl, _, rfl, x, wh, S, τ, cnt, who, rfl, hS, hv, fun i d e hd => ?_, k1⟩
    subst e
    obtain ⟨T, eT, _⟩ := hS.tab hd
    obtain ⟨bi, td, tkvs, tf, hdk, tdi, tpg⟩ := hS.tabE hd eT
    have k3 := k2 i T rfl eT
    clear k1 k2
    refine ⟨Nat.zero_le _, fun D hD => ?_⟩
    have s0 := Same.new (o := .lst []) hD
    refine ⟨_, rfl, d, tkvs, intsOf tkvs, rfl, .inl (s0 _ _ hdk), tdi.keys, fun ys q hp hsrt hq => ?_⟩
    have dom : ∀ i, (tf i).isSome = true → 0 ≤ i ∧ i < (512 : Nat) := fun i z => by
      have := (tpg i).low z
      omega
    have ey : ys = keysT T := by
      rw [sorted_is tdi dom hp hsrt]
      unfold keysT
      congr 1
      funext i
      exact (tpg i).isSome
    subst ey
    have nDq : D ≠ q := ne_of_none upd_same hq
    obtain ⟨_, hq0⟩ := upd_none hq
    have hq1 : (upd (upd H D (.lst [])) q (.lst ((keysT T).map V.int))) q = some (.lst ((keysT T).map V.int)) := upd_same
    have kl : (keysT T).length ≤ 512 := upTo_length _ _
    have nqd : q ≠ d := (ne_of_none (s0 _ _ hdk) hq).symm
    refine ⟨q, rfl, ⟨_, SqL.of hq1⟩, for_list (K := K) (a := q) (xs := (keysT T).map V.int) (fun j σ Z => (∃ c4 c5 c6, σ = [some (.ref x), some (.int i), some (.ref d), some (.ref D), c4, c5, c6]) ∧ Same H Z ∧ Z q = some (.lst ((keysT T).map V.int)) ∧
        ∃ ps : List Addr, Z D = some (.lst (ps.map V.ref)) ∧ ps.Nodup ∧ (∀ p ∈ ps, p ≠ D ∧ p ≠ q ∧ H p = none) ∧ PrR Z ps (regsK T ((keysT T).take j)) ∧ ps.length ≤ j)
      ⟨⟨_, _, _, rfl⟩, s0.trans (Same.new hq), hq1, [], by rw [upd_ne nDq, upd_same]; rfl, List.nodup_nil, fun p hp => (nomatch hp), True.intro, Nat.le_refl _⟩ (fun j σ Z _ z => SqL.of z.2.2.1) ?_ ?_⟩
    · rintro j y σ Z hy ⟨⟨c4, c5, c6, rfl⟩, sz, zq, ps, zD, nd, np, pr, pl⟩
      rw [List.getElem?_map] at hy
      obtain ⟨n, hn, rfl⟩ : ∃ n, (keysT T)[j]? = some n ∧ y = V.int n := by
        cases e : (keysT T)[j]? with
        | none => rw [e] at hy; cases hy
        | some n => rw [e] at hy; exact ⟨n, rfl, (Option.some.inj hy).symm⟩
      have hj : j < (keysT T).length := (List.getElem?_eq_some_iff.mp hn).1
      have hmem := upTo_mem.mp (List.mem_of_getElem? hn)
      have tk := take_succ hn
      have zd := sz _ _ hdk
      obtain ⟨g, eg⟩ : ∃ g, T n = some g := Option.isSome_iff_exists.mp hmem.2
      have rel := tpg n
      rw [eg] at rel
      obtain ⟨v, ev⟩ : ∃ v, tf n = some v := by
        cases ev : tf n with
        | none => rw [ev] at rel; exact rel.elim
        | some v => exact ⟨v, rfl⟩
      rw [ev] at rel
      obtain ⟨nb, wf, p', rfl, hp'⟩ := rel
      obtain ⟨v1, ev1⟩ : ∃ v1, tf (n - 1) = v1 := ⟨_, rfl⟩
      have rel1 := tpg (n - 1)
      rw [ev1] at rel1
      have next : ∀ {Y : Hp} {acc' : List (Int × Int)} {ps' : List Addr} {c4 c5 c6 : Option V}, Same H Y → Y q = some (.lst ((keysT T).map V.int)) → Y D = some (.lst (ps'.map V.ref)) → ps'.Nodup → (∀ p ∈ ps', p ≠ D ∧ p ≠ q ∧ H p = none) → stepR T (regsK T ((keysT T).take j)) n = acc' → PrR Y ps' acc' → ps'.length ≤ j + 1 →
          (∃ c4' c5' c6', [some (V.ref x), some (.int i), some (.ref d), some (.ref D), c4, c5, c6] = [some (.ref x), some (.int i), some (.ref d), some (.ref D), c4', c5', c6']) ∧ Same H Y ∧ Y q = some (.lst ((keysT T).map V.int)) ∧
          ∃ ps : List Addr, Y D = some (.lst (ps.map V.ref)) ∧ ps.Nodup ∧ (∀ p ∈ ps, p ≠ D ∧ p ≠ q ∧ H p = none) ∧ PrR Y ps (regsK T ((keysT T).take (j + 1))) ∧ ps.length ≤ j + 1 := fun a b c d e f g h => by
        refine ⟨⟨_, _, _, rfl⟩, a, b, _, c, d, e, ?_, h⟩
        rw [tk, regsK_snoc, f]
        exact g
      refine tIfS_s (b := cont (T (n - 1)) (T n)) (fun Q' q' => ?_) (fun c Y sy => ?_) (fun c Y sy => ?_)
      · refine ⟨_, rfl, _, _, rfl, rfl, _, rfl, d, _, rfl, DGet.k (k := Sum.inl (n - 1)) zd, _, rfl, ?_⟩
        rw [tdi.val, ev1]
        cases e1 : T (n - 1) with
        | none =>
          rw [e1] at rel1
          have : v1 = none := by
            cases v1 with
            | none => rfl
            | some _ => exact rel1.elim
          rw [this]
          rw [e1] at q'
          exact iteF (q' Z (Same.refl Z))
        | some g1 =>
          rw [e1] at rel1
          cases v1 with
          | none => exact rel1.elim
          | some w1 =>
            obtain ⟨_, wf1, p1, rfl, hp1⟩ := rel1
            refine iteT ⟨_, rfl, _, rfl, _, _, rfl, rfl, d, _, rfl, (by rw [← ev1, ← tdi.val]; exact DGet.k (k := Sum.inl (n - 1)) zd), _, rfl, _, rfl, d, _, rfl, (by rw [← ev, ← tdi.val]; exact DGet.k (k := Sum.inl n) zd), ?_⟩
            refine ⟨p1, p', g1, g, rfl, hp1.keep (ImmK.same sz), hp'.keep (ImmK.same sz), wf1, wf, fun H' s' => ⟨_, rfl, ?_⟩⟩
            rw [e1, eg] at q'
            exact q' H' s'
      · -- the region goes on
        have pm : n - 1 ∈ (keysT T).take j := by
          refine lt_take (upTo_lt _ _) hn (upTo_mem.mpr ?_) (by omega)
          cases e1 : T (n - 1) with
          | none => rw [e1] at c; cases c
          | some g1 =>
            rw [e1] at rel1
            cases v1 with
            | none => exact rel1.elim
            | some w1 => exact ⟨by have := rel1.1; omega, rfl⟩
        have ne := regsK_ne T (ks := (keysT T).take j) (fun z => by rw [z] at pm; cases pm)
        have psne : ps ≠ [] := fun z => by
          have := pr.length
          rw [z] at this
          exact ne (List.eq_nil_of_length_eq_zero this.symm)
        obtain ⟨ps', l, rfl⟩ : ∃ ps' l, ps = ps' ++ [l] := ⟨ps.dropLast, ps.getLast psne, (List.dropLast_concat_getLast psne).symm⟩
        obtain ⟨acc', ⟨a, m⟩, ea, pr', hl⟩ := pr.unsnoc
        have yD := sy _ _ zD
        have yl := sy _ _ hl
        obtain ⟨nlD, nlq, hl0⟩ := np l (by simp)
        rw [List.map_append, List.map_cons, List.map_nil] at yD
        refine ⟨_, rfl, 1, rfl, D, _, _, _, rfl, rfl, SqL.of yD, atI_last _ _, ?_⟩
        refine ⟨l, _, 1, _, rfl, rfl, SqL.of yl, by decide, rfl, ?_⟩
        refine ⟨m, 1, rfl, rfl, l, _, 1, 1, rfl, rfl, yl, rfl, ?_⟩
        have nd' := List.nodup_append.mp nd
        refine next (fun b o ho => ?_) ?_ ?_ nd np ?_ (PrR.snoc (p := l) (q := (a, m + 1)) upd_same (pr'.keep fun p hp o ho => ?_)) (by omega)
        · rw [upd_ne (ne_of_none ho hl0)]
          exact sy _ _ (sz _ _ ho)
        · rw [upd_ne (Ne.symm nlq)]
          exact sy _ _ zq
        · rw [upd_ne (Ne.symm nlD), List.map_append]
          exact yD
        · have el : (regsK T ((keysT T).take j)).getLast? = some (a, m) := by rw [ea]; exact List.getLast?_concat
          unfold stepR
          rw [el]
          simp only [c, if_true]
          rw [ea, List.dropLast_concat]
        · rw [upd_ne (nd'.2.2 p hp l (by simp))]
          exact sy _ _ ho
      · -- a new one
        have yD := sy _ _ zD
        refine ⟨_, rfl, .inl ⟨rfl, _, SqL.of yD⟩, _, rfl, (by show 2 ≤ sizeLine; decide), fun p hp => ?_⟩
        have nDp : D ≠ p := ne_of_none yD hp
        have nqp : q ≠ p := ne_of_none (sy _ _ zq) hp
        have hp0 : H p = none := Same.free (sz.trans sy) hp
        refine ⟨D, _, _, rfl, rfl, by rw [upd_ne nDp]; exact yD, Nat.lt_of_le_of_lt (by rw [List.length_map]; omega : (ps.map V.ref).length ≤ 10000) (by decide), ?_⟩
        have pin : ∀ p' ∈ ps, p' ≠ p := fun p' hp' e => by
          obtain ⟨jj, hjj⟩ := List.mem_iff_getElem?.mp hp'
          obtain ⟨_, _, h1⟩ := pr.get hjj
          have := sy _ _ h1
          rw [e, hp] at this
          cases this
        refine next (ps' := ps ++ [p]) (acc' := regsK T ((keysT T).take j) ++ [(n, 1)]) (fun b o ho => ?_) ?_ ?_ ?_ ?_ ?_ (PrR.snoc (p := p) (q := (n, 1)) ?_ (pr.keep fun p' hp' o ho => ?_)) (by rw [List.length_append, List.length_singleton]; omega)
        · rw [upd_ne (ne_of_none ho hD), upd_ne (ne_of_none ho hp0)]
          exact sy _ _ (sz _ _ ho)
        · rw [upd_ne (Ne.symm nDq), upd_ne nqp]
          exact sy _ _ zq
        · rw [upd_same, List.map_append]
          rfl
        · refine List.nodup_append.mpr ⟨nd, by simp, fun a ha b hb => ?_⟩
          rw [List.mem_singleton.mp hb]
          exact pin a ha
        · intro p' hp'
          rcases List.mem_append.mp hp' with z | z
          · exact np p' z
          · rw [List.mem_singleton.mp z]
            exact ⟨Ne.symm nDp, Ne.symm nqp, hp0⟩
        · unfold stepR
          split
          · simp only [c, if_false, Bool.false_eq_true]
          · rename_i e
            rw [List.getLast?_eq_none_iff.mp e]
            rfl
        · rw [upd_ne (Ne.symm nDp), upd_same]
        · rw [upd_ne (np p' hp').1, upd_ne (pin p' hp')]
          exact sy _ _ ho
    · rintro σ Z ⟨⟨c4, c5, c6, rfl⟩, sz, zq, ps, zD, nd, np, pr, pl⟩
      rw [List.length_map, List.take_length] at pr
      have st := regsK_start T (keysT T) fun n hn => (upTo_mem.mp hn).2
      have zd := sz _ _ hdk
      have pl2 : ps.length ≤ 512 := by
        rw [List.length_map] at pl
        omega
      refine ⟨_, rfl, D, rfl, ⟨_, SqL.of zD⟩, fun R hR => ?_⟩
      refine lc_it (walk_list (K := K) (a := D) (xs := ps.map V.ref)) (fun j Y => Same Z Y ∧ ∃ rows, Y R = some (.lst rows) ∧ RowsR Y rows (withP T ((regsI T).take j)))
        ⟨Same.new hR, [], upd_same, True.intro⟩ (fun j Y _ y => SqL.of (y.1 _ _ zD)) ?_ ?_
      · rintro j y Y0 Y hj ⟨sy, rows, y1, y2⟩ ⟨rfl, hy⟩
        rw [List.getElem?_map] at hy
        obtain ⟨l, hl, rfl⟩ : ∃ l, ps[j]? = some l ∧ y = V.ref l := by
          cases e : ps[j]? with
          | none => rw [e] at hy; cases hy
          | some n => rw [e] at hy; exact ⟨n, rfl, (Option.some.inj hy).symm⟩
        obtain ⟨⟨a, m⟩, ham, hlz⟩ := pr.get hl
        have tk : (regsI T).take (j + 1) = (regsI T).take j ++ [(a, m)] := take_succ ham
        obtain ⟨g, eg⟩ : ∃ g, T a = some g := Option.isSome_iff_exists.mp (st _ (List.mem_of_getElem? ham))
        have rel := tpg a
        rw [eg] at rel
        obtain ⟨v, ev⟩ : ∃ v, tf a = some v := by
          cases ev : tf a with
          | none => rw [ev] at rel; exact rel.elim
          | some v => exact ⟨v, rfl⟩
        rw [ev] at rel
        obtain ⟨nb, wf, p', rfl, hp'⟩ := rel
        refine ⟨l, _, rfl, SqL.of (sy _ _ hlz), rfl, _, _, rfl, _, _, rfl, rfl, rfl, ?_⟩
        dsimp only [tYes]
        refine iteT ⟨_, rfl, _, rfl, (by show 2 ≤ sizeLine; decide), fun t ht => ?_⟩
        have s1 := Same.new (o := .tup [V.int a, V.int m]) ht
        have im := ImmK.same ((sz.trans sy).trans s1)
        obtain ⟨dx, sv, fa, e1, e2, e3⟩ := hp'.keep im
        refine ⟨_, rfl, _, rfl, d, _, rfl, (by rw [← ev, ← tdi.val]; exact DGet.k (k := Sum.inl a) (s1 _ _ (sy _ _ zd))), p', _, _, _, _, _, _, rfl, ⟨dx, e1⟩, fun q2 hq2 => ?_⟩
        have s2 := Same.new (o := .tup [V.str g.r, .bl g.sh, sv, ixV g.ix, .ref fa]) hq2
        refine ⟨t, q2, _, _, rfl, rfl, SqT.of (s2 _ _ upd_same), SqT.of upd_same, by simp, by show 7 ≤ sizeLine; decide, fun z => (nomatch z), fun _ t3 ht3 => ?_⟩
        have s3 := Same.new (o := .tup ([V.int a, V.int m] ++ [V.str g.r, .bl g.sh, sv, ixV g.ix, .ref fa])) ht3
        have ss := (s1.trans s2).trans s3
        have rl := y2.length
        have wl := withP_length T ((regsI T).take j)
        have tl := List.length_take_le j (regsI T)
        have hj2 : j < ps.length := by rw [List.length_map] at hj; exact hj
        have nRl : ∀ {b : Addr} {o : HO}, Z b = some o → b ≠ R := fun e => ne_of_none e hR
        refine ⟨rows, ss _ _ y1, Nat.lt_of_le_of_lt (by omega : rows.length ≤ 10000) (by decide), fun b o ho => ?_, _, upd_same, ?_⟩
        · rw [upd_ne (nRl ho)]
          exact ss _ _ (sy _ _ ho)
        · rw [tk, withP_snoc T _ _ eg]
          have im2 := ImmK.upd (u := .lst (rows ++ [V.ref t3])) (ss _ _ y1) rfl
          refine RowsR.snoc (RowR.keep im2 ⟨t3, sv, fa, rfl, upd_same, (e2.keep (ImmK.same (s2.trans s3))), (s2.trans s3) _ _ e3⟩) ((y2.keep (ImmK.same ss)).keep im2)
      · rintro Y ⟨sy, rows, y1, y2⟩
        rw [List.length_map] at y2
        have : (regsI T).take ps.length = regsI T := by rw [pr.length]; exact List.take_length
        rw [this] at y2
        exact k3 R rows Y (sz.trans sy) (Same.free sz hR) y1 y2
end
end My
set_option Elab.async false
set_option linter.all false
set_option maxRecDepth 100000
set_option maxHeartbeats 4000000
namespace My
open PySem L2
local macro_rules | `(tactic| walk_at "ds") => `(tactic| dsimp only [tSeq, tIfS, tTest, tB, tAnd, tOr, tNot, tAndV, tOrV, tNotV, tIf, tIsN, tNotN, tOp, tUn, tChain, rI, rI0, rU, tC, tCB, tCons, tNil, tAsg, gName, gSub, tRet, tRetN, tNext, tDrop, tLst, tTup, rIxL, rIxT, rSetL, tVar, tFld, tCall, tDGet, tDIn, tDNotIn, tNever, L2.start, List.map, List.replicate, List.length, List.append, List.cons_append, List.nil_append, List.set, Nat.sub])
local macro_rules | `(tactic| walk_at "hp") => `(tactic| first | assumption | exact upd_same | (refine Eq.trans (upd_ne (by first | assumption | (apply Ne.symm; assumption))) ?_; walk_at "hp"))
local macro_rules | `(tactic| walk_at "sd") => `(tactic| first
  | (show (_ : Int) ≠ 0; omega)
  | (refine (show CDivN _ _ from ⟨?_, ?_⟩) <;> omega)
  | (show CPow _ _; refine ⟨by omega, by omega, by omega⟩)
  | (show CMul _ _; exact Or.inl ⟨by omega, by omega⟩)
  | (show CMul _ _; exact Or.inr ⟨by omega, by omega⟩))
local macro_rules | `(tactic| walk_at "st") => `(tactic| first
  | refine ⟨_, rfl, ?_⟩
  | refine ⟨_, _, rfl, rfl, (by walk_at "sd"), ?_⟩
  | refine ⟨_, _, rfl, rfl, ?_⟩
  | refine ⟨_, _, _, _, rfl, rfl, SqL.of (by walk_at "hp"), rfl, ?_⟩
  | refine ⟨_, _, _, _, rfl, rfl, (by walk_at "hp"), rfl, ?_⟩
  | refine .inl ⟨_, rfl, ?_⟩
  | refine ⟨_, _, _, _, _, rfl, (by walk_at "hp"), (by assumption), (by assumption), rfl, ?_⟩
  | refine ⟨_, _, rfl, .inl (SqL.of (by walk_at "hp")), ?_⟩)
local macro_rules | `(tactic| walk_at "go") => `(tactic| repeat (first | walk_at "st" | (walk_at "ds"; walk_at "st")))
local macro_rules | `(tactic| walk_at "ni") => `(tactic| dsimp (config := { proj := false }) only [tNil, List.cons_append, List.nil_append])
section
variable {P : Program} {w : World} {K : PySem.W.Frag} {mg : Str → Option Value} {base : Heap} {A : Adr}
/-- self.f = a new thing -/
theorem sf_dict {C x dx : Addr} {fs : List (Str × V)} {fs' : Addr → List (Str × V)} {H : Hp} {D : Ends} {σ : St} {f : Str} (cl : Cls K C) (na : NoAttr K C f) (h0 : σ[0]? = some (some (.ref x)))
    (hx : H x = some (.ins C dx fs)) (hl : fs.length < 1000) (he : ∀ q, putF f (.ref q) fs = fs' q) (k : ∀ q H', H q = none → But x H H' → H' q = some (.dK []) → H' x = some (.ins C dx (fs' q)) → D.nx σ H') : sFld K (tVar 0) tDNewK f D σ H := by
  intro q hq
  have nq : x ≠ q := ne_of_none hx hq
  refine ⟨_, h0, x, C, dx, fs, rfl, (by rw [upd_ne nq]; exact hx), cl, na, hl, k q _ hq (fun b o hb ho => ?_) ?_ (by rw [he, upd_same])⟩
  · rw [upd_ne hb, upd_ne (ne_of_none ho hq)]
    exact ho
  · rw [upd_ne (Ne.symm nq), upd_same]
theorem sf_dictT {C x dx : Addr} {fs : List (Str × V)} {fs' : Addr → List (Str × V)} {H : Hp} {D : Ends} {σ : St} {f : Str} (cl : Cls K C) (na : NoAttr K C f) (h0 : σ[0]? = some (some (.ref x)))
    (hx : H x = some (.ins C dx fs)) (hl : fs.length < 1000) (he : ∀ q, putF f (.ref q) fs = fs' q) (k : ∀ q H', H q = none → But x H H' → H' q = some (.dT []) → H' x = some (.ins C dx (fs' q)) → D.nx σ H') : sFld K (tVar 0) tDNewT f D σ H := by
  intro q hq
  have nq : x ≠ q := ne_of_none hx hq
  refine ⟨_, h0, x, C, dx, fs, rfl, (by rw [upd_ne nq]; exact hx), cl, na, hl, k q _ hq (fun b o hb ho => ?_) ?_ (by rw [he, upd_same])⟩
  · rw [upd_ne hb, upd_ne (ne_of_none ho hq)]
    exact ho
  · rw [upd_ne (Ne.symm nq), upd_same]
theorem sf_list {C x dx : Addr} {fs : List (Str × V)} {fs' : Addr → List (Str × V)} {H : Hp} {D : Ends} {σ : St} {f : Str} (cl : Cls K C) (na : NoAttr K C f) (h0 : σ[0]? = some (some (.ref x)))
    (hx : H x = some (.ins C dx fs)) (hl : fs.length < 1000) (he : ∀ q, putF f (.ref q) fs = fs' q) (k : ∀ q H', H q = none → But x H H' → H' q = some (.lst []) → H' x = some (.ins C dx (fs' q)) → D.nx σ H') : sFld K (tVar 0) (tLst tNil) f D σ H := by
  refine ⟨Nat.zero_le _, fun q hq => ?_⟩
  have nq : x ≠ q := ne_of_none hx hq
  refine ⟨_, h0, x, C, dx, fs, rfl, (by rw [upd_ne nq]; exact hx), cl, na, hl, k q _ hq (fun b o hb ho => ?_) ?_ (by rw [he, upd_same])⟩
  · rw [upd_ne hb, upd_ne (ne_of_none ho hq)]
    exact ho
  · rw [upd_ne (Ne.symm nq), upd_same]
theorem sf_list0 {C x dx : Addr} {fs : List (Str × V)} {fs' : Addr → List (Str × V)} {H : Hp} {D : Ends} {σ : St} {f : Str} (cl : Cls K C) (na : NoAttr K C f) (h0 : σ[0]? = some (some (.ref x)))
    (hx : H x = some (.ins C dx fs)) (hl : fs.length < 1000) (he : ∀ q, putF f (.ref q) fs = fs' q) (k : ∀ q H', H q = none → But x H H' → H' q = some (.lst [.int 0]) → H' x = some (.ins C dx (fs' q)) → D.nx σ H') : sFld K (tVar 0) (tLst (tCons (tC (V.int 0)) tNil)) f D σ H := by
  refine ⟨(by show 1 ≤ sizeLine; decide), fun q hq => ?_⟩
  have nq : x ≠ q := ne_of_none hx hq
  refine ⟨_, h0, x, C, dx, fs, rfl, (by rw [upd_ne nq]; exact hx), cl, na, hl, k q _ hq (fun b o hb ho => ?_) ?_ (by rw [he, upd_same])⟩
  · rw [upd_ne hb, upd_ne (ne_of_none ho hq)]
    exact ho
  · rw [upd_ne (Ne.symm nq), upd_same]
/-- self.f = a new history -/
theorem sf_his {C x dx CH : Addr} {fs : List (Str × V)} {H : Hp} {D : Ends} {σ : St} {f : Str} {te : TE}
    (hte : ∀ Q : VK, (∀ q ro lk dh y Hh, Same H Hh → Hh q = some (.ins CH dh (hisF ro lk y)) → Hh ro = some (.lst []) → Hh lk = some (.lst []) → H q = none → H ro = none → H lk = none → ro ≠ lk → Q (.ref q) Hh) → te σ H Q)
    (cl : Cls K C) (na : NoAttr K C f) (h0 : σ[0]? = some (some (.ref x)))
    (hx : H x = some (.ins C dx fs)) (hl : fs.length < 1000) (k : ∀ q H' ro lk dh y, But x H H' → H' x = some (.ins C dx (putF f (.ref q) fs)) → H' q = some (.ins CH dh (hisF ro lk y)) → H' ro = some (.lst []) → H' lk = some (.lst []) → H q = none → H ro = none → H lk = none → ro ≠ lk → D.nx σ H') : sFld K (tVar 0) te f D σ H :=
  hte _ fun q ro lk dh y Hh s1 e1 e2 e3 z1 z2 z3 n => by
    have nq : x ≠ q := ne_of_none hx z1
    have nr : x ≠ ro := ne_of_none hx z2
    have nl : x ≠ lk := ne_of_none hx z3
    refine ⟨_, h0, x, C, dx, fs, rfl, s1 _ _ hx, cl, na, hl, k q _ ro lk dh y (fun b o hb ho => ?_) upd_same ?_ ?_ ?_ z1 z2 z3 n⟩
    · rw [upd_ne hb]; exact s1 _ _ ho
    · rw [upd_ne (Ne.symm nq)]; exact e1
    · rw [upd_ne (Ne.symm nr)]; exact e2
    · rw [upd_ne (Ne.symm nl)]; exact e3
theorem if_no {c : TT} {t : TS} {D : Ends} {σ : St} {H : Hp} (hc : ∀ Q : Bool → Hp → Prop, Q false H → c σ H Q) (h2 : D.nx σ H) : tIfS c t tNext D σ H := hc _ (iteF h2)
def hisY (v : List V) : Nat → V := fun n => v.getD n .non
def spHisI (A : Adr) : Sp := fun vs H Q _ => ∃ (h dh : Addr), vs = [.ref h] ∧ H h = some (.ins A.c_History dh []) ∧
  ∀ H' ro lk y, But h H H' → H' h = some (.ins A.c_History dh (hisF ro lk y)) → H' ro = some (.lst []) → H' lk = some (.lst []) → H ro = none → H lk = none → ro ≠ lk → Q .non H'
theorem ok_History_init (G : Txt K mg A) : FnOk P w K mg base CX0 1 A.a_History_init A.fd_History_init p_History_init (spHisI A) := by
  refine G.f_History_init.ok sc_History_init (fun vs H Q E h => ?_) (fun cdv A' outer s H vs Q E hr h => ?_)
  · obtain ⟨x, dx, rfl, _⟩ := h
    rfl
  · obtain ⟨x, dx, rfl, hx, k⟩ := h
    have cl := G.cl_History
    refine ⟨_, (pss_cons (ps_fld (pv 0) (pe_lst pa_nil) rfl)
  (pss_cons (ps_fld (pv 0) (pe_lst pa_nil) rfl)
  (pss_cons (ps_fld (pv 0) (pe_lst pa_nil) rfl)
  (pss_cons (ps_fld (pv 0) pe_int rfl)
  (pss_cons (ps_fld (pv 0) (pe_lst pa_nil) rfl)
  (pss_cons (ps_fld (pv 0) (pe_lst pa_nil) rfl)
  (pss_cons (ps_fld (pv 0) (pe_lst (pa_cons pe_int pa_nil)) rfl)
  (pss_cons (ps_fld (pv 0) (pe_lst (pa_cons pe_int pa_nil)) rfl)
  (pss_cons (ps_fld (pv 0) (pe_lst (pa_cons pe_int pa_nil)) rfl)
  (pss_cons (ps_fld (pv 0) (pe_lst (pa_cons pe_int pa_nil)) rfl)
  (pss_cons (ps_fld (pv 0) (pe_lst pa_nil) rfl)
  (pss_cons (ps_fld (pv 0) pe_int rfl)
  (pss_cons (ps_fld (pv 0) pe_bl rfl)
  (pss_one (ps_fld (pv 0) pe_bl rfl))))))))))))))), ?_⟩
    refine sf_list (fs := []) (fs' := fun q1 => [("row", .ref q1)]) cl G.n_History_row rfl hx (by show 0 < 1000; decide) (fun _ => rfl) (fun q1 H1 z1 b1 d1 e1 => ?_)
    try dsimp only
    refine sf_list (fs := [("row", .ref q1)]) (fs' := fun q2 => [("row", .ref q1), ("holes", .ref q2)]) cl G.n_History_holes rfl e1 (by show 1 < 1000; decide) (fun _ => rfl) (fun q2 H2 z2 b2 d2 e2 => ?_)
    try dsimp only
    refine sf_list (fs := [("row", .ref q1), ("holes", .ref q2)]) (fs' := fun q3 => [("row", .ref q1), ("holes", .ref q2), ("locked", .ref q3)]) cl G.n_History_locked rfl e2 (by show 2 < 1000; decide) (fun _ => rfl) (fun q3 H3 z3 b3 d3 e3 => ?_)
    try dsimp only
    refine sf_val (fs := [("row", .ref q1), ("holes", .ref q2), ("locked", .ref q3)]) (fs' := [("row", .ref q1), ("holes", .ref q2), ("locked", .ref q3), ("classes", .int 0)]) (fun Q q => q) cl G.n_History_classes rfl e3 (by show 3 < 1000; decide) rfl (fun H4 b4 n4 e4 => ?_)
    try dsimp only
    refine sf_list (fs := [("row", .ref q1), ("holes", .ref q2), ("locked", .ref q3), ("classes", .int 0)]) (fs' := fun q5 => [("row", .ref q1), ("holes", .ref q2), ("locked", .ref q3), ("classes", .int 0), ("touches", .ref q5)]) cl G.n_History_touches rfl e4 (by show 4 < 1000; decide) (fun _ => rfl) (fun q5 H5 z5 b5 d5 e5 => ?_)
    try dsimp only
    refine sf_list (fs := [("row", .ref q1), ("holes", .ref q2), ("locked", .ref q3), ("classes", .int 0), ("touches", .ref q5)]) (fs' := fun q6 => [("row", .ref q1), ("holes", .ref q2), ("locked", .ref q3), ("classes", .int 0), ("touches", .ref q5), ("distances", .ref q6)]) cl G.n_History_distances rfl e5 (by show 5 < 1000; decide) (fun _ => rfl) (fun q6 H6 z6 b6 d6 e6 => ?_)
    try dsimp only
    refine sf_list0 (fs := [("row", .ref q1), ("holes", .ref q2), ("locked", .ref q3), ("classes", .int 0), ("touches", .ref q5), ("distances", .ref q6)]) (fs' := fun q7 => [("row", .ref q1), ("holes", .ref q2), ("locked", .ref q3), ("classes", .int 0), ("touches", .ref q5), ("distances", .ref q6), ("swap_outs", .ref q7)]) cl G.n_History_swap_outs rfl e6 (by show 6 < 1000; decide) (fun _ => rfl) (fun q7 H7 z7 b7 d7 e7 => ?_)
    try dsimp only
    refine sf_list0 (fs := [("row", .ref q1), ("holes", .ref q2), ("locked", .ref q3), ("classes", .int 0), ("touches", .ref q5), ("distances", .ref q6), ("swap_outs", .ref q7)]) (fs' := fun q8 => [("row", .ref q1), ("holes", .ref q2), ("locked", .ref q3), ("classes", .int 0), ("touches", .ref q5), ("distances", .ref q6), ("swap_outs", .ref q7), ("write_backs", .ref q8)]) cl G.n_History_write_backs rfl e7 (by show 7 < 1000; decide) (fun _ => rfl) (fun q8 H8 z8 b8 d8 e8 => ?_)
    try dsimp only
    refine sf_list0 (fs := [("row", .ref q1), ("holes", .ref q2), ("locked", .ref q3), ("classes", .int 0), ("touches", .ref q5), ("distances", .ref q6), ("swap_outs", .ref q7), ("write_backs", .ref q8)]) (fs' := fun q9 => [("row", .ref q1), ("holes", .ref q2), ("locked", .ref q3), ("classes", .int 0), ("touches", .ref q5), ("distances", .ref q6), ("swap_outs", .ref q7), ("write_backs", .ref q8), ("most_slots", .ref q9)]) cl G.n_History_most_slots rfl e8 (by show 8 < 1000; decide) (fun _ => rfl) (fun q9 H9 z9 b9 d9 e9 => ?_)
    try dsimp only
    refine sf_list0 (fs := [("row", .ref q1), ("holes", .ref q2), ("locked", .ref q3), ("classes", .int 0), ("touches", .ref q5), ("distances", .ref q6), ("swap_outs", .ref q7), ("write_backs", .ref q8), ("most_slots", .ref q9)]) (fs' := fun q10 => [("row", .ref q1), ("holes", .ref q2), ("locked", .ref q3), ("classes", .int 0), ("touches", .ref q5), ("distances", .ref q6), ("swap_outs", .ref q7), ("write_backs", .ref q8), ("most_slots", .ref q9), ("saves", .ref q10)]) cl G.n_History_saves rfl e9 (by show 9 < 1000; decide) (fun _ => rfl) (fun q10 H10 z10 b10 d10 e10 => ?_)
    try dsimp only
    refine sf_list (fs := [("row", .ref q1), ("holes", .ref q2), ("locked", .ref q3), ("classes", .int 0), ("touches", .ref q5), ("distances", .ref q6), ("swap_outs", .ref q7), ("write_backs", .ref q8), ("most_slots", .ref q9), ("saves", .ref q10)]) (fs' := fun q11 => [("row", .ref q1), ("holes", .ref q2), ("locked", .ref q3), ("classes", .int 0), ("touches", .ref q5), ("distances", .ref q6), ("swap_outs", .ref q7), ("write_backs", .ref q8), ("most_slots", .ref q9), ("saves", .ref q10), ("lock_changes", .ref q11)]) cl G.n_History_lock_changes rfl e10 (by show 10 < 1000; decide) (fun _ => rfl) (fun q11 H11 z11 b11 d11 e11 => ?_)
    try dsimp only
    refine sf_val (fs := [("row", .ref q1), ("holes", .ref q2), ("locked", .ref q3), ("classes", .int 0), ("touches", .ref q5), ("distances", .ref q6), ("swap_outs", .ref q7), ("write_backs", .ref q8), ("most_slots", .ref q9), ("saves", .ref q10), ("lock_changes", .ref q11)]) (fs' := [("row", .ref q1), ("holes", .ref q2), ("locked", .ref q3), ("classes", .int 0), ("touches", .ref q5), ("distances", .ref q6), ("swap_outs", .ref q7), ("write_backs", .ref q8), ("most_slots", .ref q9), ("saves", .ref q10), ("lock_changes", .ref q11), ("most_locked", .int 0)]) (fun Q q => q) cl G.n_History_most_locked rfl e11 (by show 11 < 1000; decide) rfl (fun H12 b12 n12 e12 => ?_)
    try dsimp only
    refine sf_val (fs := [("row", .ref q1), ("holes", .ref q2), ("locked", .ref q3), ("classes", .int 0), ("touches", .ref q5), ("distances", .ref q6), ("swap_outs", .ref q7), ("write_backs", .ref q8), ("most_slots", .ref q9), ("saves", .ref q10), ("lock_changes", .ref q11), ("most_locked", .int 0)]) (fs' := [("row", .ref q1), ("holes", .ref q2), ("locked", .ref q3), ("classes", .int 0), ("touches", .ref q5), ("distances", .ref q6), ("swap_outs", .ref q7), ("write_backs", .ref q8), ("most_slots", .ref q9), ("saves", .ref q10), ("lock_changes", .ref q11), ("most_locked", .int 0), ("crashed", .bl false)]) (fun Q q => q) cl G.n_History_crashed rfl e12 (by show 12 < 1000; decide) rfl (fun H13 b13 n13 e13 => ?_)
    try dsimp only
    refine sf_val (fs := [("row", .ref q1), ("holes", .ref q2), ("locked", .ref q3), ("classes", .int 0), ("touches", .ref q5), ("distances", .ref q6), ("swap_outs", .ref q7), ("write_backs", .ref q8), ("most_slots", .ref q9), ("saves", .ref q10), ("lock_changes", .ref q11), ("most_locked", .int 0), ("crashed", .bl false)]) (fs' := [("row", .ref q1), ("holes", .ref q2), ("locked", .ref q3), ("classes", .int 0), ("touches", .ref q5), ("distances", .ref q6), ("swap_outs", .ref q7), ("write_backs", .ref q8), ("most_slots", .ref q9), ("saves", .ref q10), ("lock_changes", .ref q11), ("most_locked", .int 0), ("crashed", .bl false), ("merged", .bl false)]) (fun Q q => q) cl G.n_History_merged rfl e13 (by show 13 < 1000; decide) rfl (fun H14 b14 n14 e14 => ?_)
    try dsimp only
    have n8 : ∀ {b : Addr} {Hx : Hp}, (∃ o, Hx x = some o) → Hx b = none → b ≠ x := fun ⟨o, e⟩ z => (ne_of_none e z).symm
    have m1 := n8 ⟨_, hx⟩ z1
    have m3 := n8 ⟨_, e2⟩ z3
    have a1 := b2 _ _ m1 d1
    have n13 : q1 ≠ q3 := ne_of_none a1 z3
    have t2 : But x H H2 := b1.trans b2
    have t4 : But x H3 H14 := b4.trans (b5.trans (b6.trans (b7.trans (b8.trans (b9.trans (b10.trans (b11.trans (b12.trans (b13.trans b14)))))))))
    have z3' : H q3 = none := by
      cases ho : H q3 with
      | none => rfl
      | some o => rw [t2 _ o m3 ho] at z3; cases z3
    exact k H14 q1 q3 (hisY [.ref q2, .int 0, .ref q5, .ref q6, .ref q7, .ref q8, .ref q9, .ref q10, .ref q11, .int 0, .bl false, .bl false]) (t2.trans (b3.trans t4)) e14 (t4 _ _ m1 (b3 _ _ m1 a1)) (t4 _ _ m3 d3) z1 z3' n13
def spInit (A : Adr) : Sp := fun vs H Q E => ∃ (x dx : Addr), vs = [.ref x, .non, .non, .bl false] ∧ H x = some (.ins A.c_System dx []) ∧
  ∀ H' wh τ, But x H H' → (∀ b g, τ b = some g → b = x ∨ H b = none) → Sr A H' x wh S0 τ → H' wh.fi = some (.dK []) → Q .non H'
theorem ok_System_init (G : Txt K mg A) : FnOk P w K mg base CX0 3 A.a_System_init A.fd_System_init p_System_init (spInit A) := by
  refine G.f_System_init.ok sc_System_init (fun vs H Q E h => ?_) (fun cdv A' outer s H vs Q E hr h => ?_)
  · obtain ⟨x, dx, rfl, _⟩ := h
    rfl
  · obtain ⟨x, dx, rfl, hx, k⟩ := h
    have cl := G.cl_System
    refine ⟨_, (pss_cons (ps_if (PW.pt (pw_and (pt_cmpR op_notN (pv 1) pe_non (nomark _)) (pw_and1 (pt_not (pt_val pe_nev))))) (pss_one ps_never) pss_nil)
  (pss_cons (ps_if (PW.pt (pw_and (pt_cmpR op_notN (pv 2) pe_non (nomark _)) (pw_and1 (pt_not (pt_val pe_nev))))) (pss_one ps_never) pss_nil)
  (pss_cons (ps_if (PW.pt (pw_or (pt_not (pt_val (pe_callB call_isi (by rfl) G.b_isinstance (by decide +kernel) (pa_cons (pv 3) (pa_cons (pe_bltn (v := .ty "bool") (u := .type "bool") (by rfl) G.b_bool (by decide +kernel) rfl) pa_nil))))) (pw_or1 (PW.pt (pw_and (pt_val (pv 3)) (pw_and1 (PW.pt (pw_or (pt_cmpR op_isN (pv 1) pe_non (nomark _)) (pw_or1 (pt_cmpR op_isN (pv 2) pe_non (nomark _))))))))))) (pss_one ps_never) pss_nil)
  (pss_cons (ps_fld (pv 0) (pv 1) rfl)
  (pss_cons (ps_fld (pv 0) (pv 2) rfl)
  (pss_cons (ps_fld (pv 0) (pv 3) rfl)
  (pss_cons (ps_fld (pv 0) pe_int rfl)
  (pss_cons (ps_fld (pv 0) pe_int rfl)
  (pss_cons (ps_fld (pv 0) pe_int rfl)
  (pss_cons (ps_fld (pv 0) pe_dnewK rfl)
  (pss_cons (ps_fld (pv 0) pe_dnewK rfl)
  (pss_cons (ps_fld (pv 0) pe_dnewT rfl)
  (pss_cons (ps_fld (pv 0) pe_dnewK rfl)
  (pss_cons (ps_fld (pv 0) pe_dnewK rfl)
  (pss_cons (ps_fld (pv 0) pe_int rfl)
  (pss_cons (ps_fld (pv 0) pe_dnewK rfl)
  (pss_cons (ps_fld (pv 0) pe_dnewK rfl)
  (pss_cons (ps_fld (pv 0) pe_int rfl)
  (pss_cons (ps_fld (pv 0) pe_int rfl)
  (pss_cons (ps_fld (pv 0) pe_int rfl)
  (pss_one (ps_fld (pv 0) (pe_make0 G.mk_History (ok_History_init G) (hr.mono (by decide)) rfl G.g_History G.bi_History_init .nil pass0) rfl)))))))))))))))))))))), ?_⟩
    refine if_no (fun Q q => ⟨_, rfl, rfl, _, rfl, iteF q⟩) ?_
    dsimp only
    refine if_no (fun Q q => ⟨_, rfl, rfl, _, rfl, iteF q⟩) ?_
    dsimp only
    refine if_no (fun Q q => ⟨_, rfl, .bl false, .ty "bool", .type "bool", .type "bool", true, rfl, .ty "bool", .base (.bl false), kit_ty (by decide +kernel), _, rfl, iteF ⟨_, rfl, _, rfl, iteF q⟩⟩) ?_
    dsimp only
    have v1 : ∀ {j : Nat} {v : V} {H : Hp}, (L2.start n_System_init [V.ref x, .non, .non, .bl false])[j]? = some (some v) → ∀ Q : VK, Q v H → tVar j (L2.start n_System_init [V.ref x, .non, .non, .bl false]) H Q := fun h Q q => ⟨_, h, q⟩
    have n8 : ∀ {b : Addr} {Hx : Hp}, (∃ o, Hx x = some o) → Hx b = none → b ≠ x := fun ⟨o, e⟩ z => (ne_of_none e z).symm
    have fr : ∀ {b : Addr} {Hx : Hp}, But x H Hx → b ≠ x → Hx b = none → H b = none := fun {b Hx} bt n e => by
      cases ho : H b with
      | none => rfl
      | some o => rw [bt b o n ho] at e; cases e
    have t0 : But x H H := fun _ _ _ e => e
    refine sf_val (fs := []) (fs' := [("frames", .non)]) (v1 (j := 1) rfl) cl G.n_System_frames rfl hx (by show 0 < 1000; decide) rfl (fun H1 b1 n1 e1 => ?_)
    try dsimp only
    have t1 := t0.trans b1
    refine sf_val (fs := [("frames", .non)]) (fs' := [("frames", .non), ("slots", .non)]) (v1 (j := 2) rfl) cl G.n_System_slots rfl e1 (by show 1 < 1000; decide) rfl (fun H2 b2 n2 e2 => ?_)
    try dsimp only
    have t2 := t1.trans b2
    refine sf_val (fs := [("frames", .non), ("slots", .non)]) (fs' := [("frames", .non), ("slots", .non), ("strict", .bl false)]) (v1 (j := 3) rfl) cl G.n_System_strict rfl e2 (by show 2 < 1000; decide) rfl (fun H3 b3 n3 e3 => ?_)
    try dsimp only
    have t3 := t2.trans b3
    refine sf_val (fs := [("frames", .non), ("slots", .non), ("strict", .bl false)]) (fs' := [("frames", .non), ("slots", .non), ("strict", .bl false), ("steps_made", .int 0)]) (fun Q q => q) cl G.n_System_steps_made rfl e3 (by show 3 < 1000; decide) rfl (fun H4 b4 n4 e4 => ?_)
    try dsimp only
    have t4 := t3.trans b4
    refine sf_val (fs := [("frames", .non), ("slots", .non), ("strict", .bl false), ("steps_made", .int 0)]) (fs' := [("frames", .non), ("slots", .non), ("strict", .bl false), ("steps_made", .int 0), ("processes_made", .int 0)]) (fun Q q => q) cl G.n_System_processes_made rfl e4 (by show 4 < 1000; decide) rfl (fun H5 b5 n5 e5 => ?_)
    try dsimp only
    have t5 := t4.trans b5
    refine sf_val (fs := [("frames", .non), ("slots", .non), ("strict", .bl false), ("steps_made", .int 0), ("processes_made", .int 0)]) (fs' := [("frames", .non), ("slots", .non), ("strict", .bl false), ("steps_made", .int 0), ("processes_made", .int 0), ("objects_made", .int 0)]) (fun Q q => q) cl G.n_System_objects_made rfl e5 (by show 5 < 1000; decide) rfl (fun H6 b6 n6 e6 => ?_)
    try dsimp only
    have t6 := t5.trans b6
    refine sf_dict (fs := [("frames", .non), ("slots", .non), ("strict", .bl false), ("steps_made", .int 0), ("processes_made", .int 0), ("objects_made", .int 0)]) (fs' := fun q7 => [("frames", .non), ("slots", .non), ("strict", .bl false), ("steps_made", .int 0), ("processes_made", .int 0), ("objects_made", .int 0), ("tables", .ref q7)]) cl G.n_System_tables rfl e6 (by show 6 < 1000; decide) (fun _ => rfl) (fun q7 H7 z7 b7 d7 e7 => ?_)
    try dsimp only
    have m7 := n8 ⟨_, e6⟩ z7
    have f7 := fr t6 m7 z7
    have a7 := d7
    have t7 := t6.trans b7
    refine sf_dict (fs := [("frames", .non), ("slots", .non), ("strict", .bl false), ("steps_made", .int 0), ("processes_made", .int 0), ("objects_made", .int 0), ("tables", .ref q7)]) (fs' := fun q8 => [("frames", .non), ("slots", .non), ("strict", .bl false), ("steps_made", .int 0), ("processes_made", .int 0), ("objects_made", .int 0), ("tables", .ref q7), ("objects", .ref q8)]) cl G.n_System_objects rfl e7 (by show 7 < 1000; decide) (fun _ => rfl) (fun q8 H8 z8 b8 d8 e8 => ?_)
    try dsimp only
    have m8 := n8 ⟨_, e7⟩ z8
    have n7_8 : q7 ≠ q8 := ne_of_none a7 z8
    have f8 := fr t7 m8 z8
    have a7 := b8 _ _ m7 a7
    have a8 := d8
    have t8 := t7.trans b8
    refine sf_dictT (fs := [("frames", .non), ("slots", .non), ("strict", .bl false), ("steps_made", .int 0), ("processes_made", .int 0), ("objects_made", .int 0), ("tables", .ref q7), ("objects", .ref q8)]) (fs' := fun q9 => [("frames", .non), ("slots", .non), ("strict", .bl false), ("steps_made", .int 0), ("processes_made", .int 0), ("objects_made", .int 0), ("tables", .ref q7), ("objects", .ref q8), ("object_pages", .ref q9)]) cl G.n_System_object_pages rfl e8 (by show 8 < 1000; decide) (fun _ => rfl) (fun q9 H9 z9 b9 d9 e9 => ?_)
    try dsimp only
    have m9 := n8 ⟨_, e8⟩ z9
    have n7_9 : q7 ≠ q9 := ne_of_none a7 z9
    have n8_9 : q8 ≠ q9 := ne_of_none a8 z9
    have f9 := fr t8 m9 z9
    have a7 := b9 _ _ m7 a7
    have a8 := b9 _ _ m8 a8
    have a9 := d9
    have t9 := t8.trans b9
    refine sf_dict (fs := [("frames", .non), ("slots", .non), ("strict", .bl false), ("steps_made", .int 0), ("processes_made", .int 0), ("objects_made", .int 0), ("tables", .ref q7), ("objects", .ref q8), ("object_pages", .ref q9)]) (fs' := fun q10 => [("frames", .non), ("slots", .non), ("strict", .bl false), ("steps_made", .int 0), ("processes_made", .int 0), ("objects_made", .int 0), ("tables", .ref q7), ("objects", .ref q8), ("object_pages", .ref q9), ("files", .ref q10)]) cl G.n_System_files rfl e9 (by show 9 < 1000; decide) (fun _ => rfl) (fun q10 H10 z10 b10 d10 e10 => ?_)
    try dsimp only
    have m10 := n8 ⟨_, e9⟩ z10
    have n7_10 : q7 ≠ q10 := ne_of_none a7 z10
    have n8_10 : q8 ≠ q10 := ne_of_none a8 z10
    have n9_10 : q9 ≠ q10 := ne_of_none a9 z10
    have f10 := fr t9 m10 z10
    have a7 := b10 _ _ m7 a7
    have a8 := b10 _ _ m8 a8
    have a9 := b10 _ _ m9 a9
    have a10 := d10
    have t10 := t9.trans b10
    refine sf_dict (fs := [("frames", .non), ("slots", .non), ("strict", .bl false), ("steps_made", .int 0), ("processes_made", .int 0), ("objects_made", .int 0), ("tables", .ref q7), ("objects", .ref q8), ("object_pages", .ref q9), ("files", .ref q10)]) (fs' := fun q11 => [("frames", .non), ("slots", .non), ("strict", .bl false), ("steps_made", .int 0), ("processes_made", .int 0), ("objects_made", .int 0), ("tables", .ref q7), ("objects", .ref q8), ("object_pages", .ref q9), ("files", .ref q10), ("classes", .ref q11)]) cl G.n_System_classes rfl e10 (by show 10 < 1000; decide) (fun _ => rfl) (fun q11 H11 z11 b11 d11 e11 => ?_)
    try dsimp only
    have a7 := b11 _ _ m7 a7
    have a8 := b11 _ _ m8 a8
    have a9 := b11 _ _ m9 a9
    have a10 := b11 _ _ m10 a10
    have t11 := t10.trans b11
    refine sf_val (fs := [("frames", .non), ("slots", .non), ("strict", .bl false), ("steps_made", .int 0), ("processes_made", .int 0), ("objects_made", .int 0), ("tables", .ref q7), ("objects", .ref q8), ("object_pages", .ref q9), ("files", .ref q10), ("classes", .ref q11)]) (fs' := [("frames", .non), ("slots", .non), ("strict", .bl false), ("steps_made", .int 0), ("processes_made", .int 0), ("objects_made", .int 0), ("tables", .ref q7), ("objects", .ref q8), ("object_pages", .ref q9), ("files", .ref q10), ("classes", .ref q11), ("locked_pages", .int 0)]) (fun Q q => q) cl G.n_System_locked_pages rfl e11 (by show 11 < 1000; decide) rfl (fun H12 b12 n12 e12 => ?_)
    try dsimp only
    have a7 := b12 _ _ m7 a7
    have a8 := b12 _ _ m8 a8
    have a9 := b12 _ _ m9 a9
    have a10 := b12 _ _ m10 a10
    have t12 := t11.trans b12
    refine sf_dict (fs := [("frames", .non), ("slots", .non), ("strict", .bl false), ("steps_made", .int 0), ("processes_made", .int 0), ("objects_made", .int 0), ("tables", .ref q7), ("objects", .ref q8), ("object_pages", .ref q9), ("files", .ref q10), ("classes", .ref q11), ("locked_pages", .int 0)]) (fs' := fun q13 => [("frames", .non), ("slots", .non), ("strict", .bl false), ("steps_made", .int 0), ("processes_made", .int 0), ("objects_made", .int 0), ("tables", .ref q7), ("objects", .ref q8), ("object_pages", .ref q9), ("files", .ref q10), ("classes", .ref q11), ("locked_pages", .int 0), ("memory", .ref q13)]) cl G.n_System_memory rfl e12 (by show 12 < 1000; decide) (fun _ => rfl) (fun q13 H13 z13 b13 d13 e13 => ?_)
    try dsimp only
    have a7 := b13 _ _ m7 a7
    have a8 := b13 _ _ m8 a8
    have a9 := b13 _ _ m9 a9
    have a10 := b13 _ _ m10 a10
    have t13 := t12.trans b13
    refine sf_dict (fs := [("frames", .non), ("slots", .non), ("strict", .bl false), ("steps_made", .int 0), ("processes_made", .int 0), ("objects_made", .int 0), ("tables", .ref q7), ("objects", .ref q8), ("object_pages", .ref q9), ("files", .ref q10), ("classes", .ref q11), ("locked_pages", .int 0), ("memory", .ref q13)]) (fs' := fun q14 => [("frames", .non), ("slots", .non), ("strict", .bl false), ("steps_made", .int 0), ("processes_made", .int 0), ("objects_made", .int 0), ("tables", .ref q7), ("objects", .ref q8), ("object_pages", .ref q9), ("files", .ref q10), ("classes", .ref q11), ("locked_pages", .int 0), ("memory", .ref q13), ("swapped", .ref q14)]) cl G.n_System_swapped rfl e13 (by show 13 < 1000; decide) (fun _ => rfl) (fun q14 H14 z14 b14 d14 e14 => ?_)
    try dsimp only
    have a7 := b14 _ _ m7 a7
    have a8 := b14 _ _ m8 a8
    have a9 := b14 _ _ m9 a9
    have a10 := b14 _ _ m10 a10
    have t14 := t13.trans b14
    refine sf_val (fs := [("frames", .non), ("slots", .non), ("strict", .bl false), ("steps_made", .int 0), ("processes_made", .int 0), ("objects_made", .int 0), ("tables", .ref q7), ("objects", .ref q8), ("object_pages", .ref q9), ("files", .ref q10), ("classes", .ref q11), ("locked_pages", .int 0), ("memory", .ref q13), ("swapped", .ref q14)]) (fs' := [("frames", .non), ("slots", .non), ("strict", .bl false), ("steps_made", .int 0), ("processes_made", .int 0), ("objects_made", .int 0), ("tables", .ref q7), ("objects", .ref q8), ("object_pages", .ref q9), ("files", .ref q10), ("classes", .ref q11), ("locked_pages", .int 0), ("memory", .ref q13), ("swapped", .ref q14), ("faults", .int 0)]) (fun Q q => q) cl G.n_System_faults rfl e14 (by show 14 < 1000; decide) rfl (fun H15 b15 n15 e15 => ?_)
    try dsimp only
    have a7 := b15 _ _ m7 a7
    have a8 := b15 _ _ m8 a8
    have a9 := b15 _ _ m9 a9
    have a10 := b15 _ _ m10 a10
    have t15 := t14.trans b15
    refine sf_val (fs := [("frames", .non), ("slots", .non), ("strict", .bl false), ("steps_made", .int 0), ("processes_made", .int 0), ("objects_made", .int 0), ("tables", .ref q7), ("objects", .ref q8), ("object_pages", .ref q9), ("files", .ref q10), ("classes", .ref q11), ("locked_pages", .int 0), ("memory", .ref q13), ("swapped", .ref q14), ("faults", .int 0)]) (fs' := [("frames", .non), ("slots", .non), ("strict", .bl false), ("steps_made", .int 0), ("processes_made", .int 0), ("objects_made", .int 0), ("tables", .ref q7), ("objects", .ref q8), ("object_pages", .ref q9), ("files", .ref q10), ("classes", .ref q11), ("locked_pages", .int 0), ("memory", .ref q13), ("swapped", .ref q14), ("faults", .int 0), ("swap_outs", .int 0)]) (fun Q q => q) cl G.n_System_swap_outs rfl e15 (by show 15 < 1000; decide) rfl (fun H16 b16 n16 e16 => ?_)
    try dsimp only
    have a7 := b16 _ _ m7 a7
    have a8 := b16 _ _ m8 a8
    have a9 := b16 _ _ m9 a9
    have a10 := b16 _ _ m10 a10
    have t16 := t15.trans b16
    refine sf_val (fs := [("frames", .non), ("slots", .non), ("strict", .bl false), ("steps_made", .int 0), ("processes_made", .int 0), ("objects_made", .int 0), ("tables", .ref q7), ("objects", .ref q8), ("object_pages", .ref q9), ("files", .ref q10), ("classes", .ref q11), ("locked_pages", .int 0), ("memory", .ref q13), ("swapped", .ref q14), ("faults", .int 0), ("swap_outs", .int 0)]) (fs' := [("frames", .non), ("slots", .non), ("strict", .bl false), ("steps_made", .int 0), ("processes_made", .int 0), ("objects_made", .int 0), ("tables", .ref q7), ("objects", .ref q8), ("object_pages", .ref q9), ("files", .ref q10), ("classes", .ref q11), ("locked_pages", .int 0), ("memory", .ref q13), ("swapped", .ref q14), ("faults", .int 0), ("swap_outs", .int 0), ("write_backs", .int 0)]) (fun Q q => q) cl G.n_System_write_backs rfl e16 (by show 16 < 1000; decide) rfl (fun H17 b17 n17 e17 => ?_)
    try dsimp only
    have a7 := b17 _ _ m7 a7
    have a8 := b17 _ _ m8 a8
    have a9 := b17 _ _ m9 a9
    have a10 := b17 _ _ m10 a10
    have t17 := t16.trans b17
    refine sf_his (CH := A.c_History) (fs := [("frames", .non), ("slots", .non), ("strict", .bl false), ("steps_made", .int 0), ("processes_made", .int 0), ("objects_made", .int 0), ("tables", .ref q7), ("objects", .ref q8), ("object_pages", .ref q9), ("files", .ref q10), ("classes", .ref q11), ("locked_pages", .int 0), ("memory", .ref q13), ("swapped", .ref q14), ("faults", .int 0), ("swap_outs", .int 0), ("write_backs", .int 0)]) (fun Q q => fun hh dhh hhn hdhn hne => ⟨hh, dhh, rfl, upd_same, fun H' ro lk y b1 e1 e2 e3 z2 z3 n => ⟨rfl, ?_⟩⟩) cl G.n_System_history rfl e17 (by show 17 < 1000; decide) (fun q18 H18 ro lk dh y b18 e18 hh1 hh2 hh3 hn1 hn2 hn3 hn4 => ?_)
    · have s1 : Same H17 H' := same_made hhn hdhn b1
      have o1 : Same H17 (upd (upd H17 dhh (.own hh)) hh (.ins A.c_History dhh [])) := (Same.new hdhn).trans (Same.new (by rw [upd_ne (Ne.symm hne)]; exact hhn))
      exact q hh ro lk dhh y H' s1 e1 e2 e3 hhn (Same.free o1 z2) (Same.free o1 z3) n
    try dsimp only
    have mh := n8 ⟨_, e17⟩ hn1
    have n7_h : q7 ≠ q18 := ne_of_none a7 hn1
    have n8_h : q8 ≠ q18 := ne_of_none a8 hn1
    have n9_h : q9 ≠ q18 := ne_of_none a9 hn1
    have n10_h : q10 ≠ q18 := ne_of_none a10 hn1
    have ffh := fr t17 mh hn1
    have mr := n8 ⟨_, e17⟩ hn2
    have n7_r : q7 ≠ ro := ne_of_none a7 hn2
    have n8_r : q8 ≠ ro := ne_of_none a8 hn2
    have n9_r : q9 ≠ ro := ne_of_none a9 hn2
    have n10_r : q10 ≠ ro := ne_of_none a10 hn2
    have ffr := fr t17 mr hn2
    have ml := n8 ⟨_, e17⟩ hn3
    have n7_l : q7 ≠ lk := ne_of_none a7 hn3
    have n8_l : q8 ≠ lk := ne_of_none a8 hn3
    have n9_l : q9 ≠ lk := ne_of_none a9 hn3
    have n10_l : q10 ≠ lk := ne_of_none a10 hn3
    have ffl := fr t17 ml hn3
    have a7 := b18 _ _ m7 a7
    have a8 := b18 _ _ m8 a8
    have a9 := b18 _ _ m9 a9
    have a10 := b18 _ _ m10 a10
    have t18 := t17.trans b18
    have nhr : q18 ≠ ro := fun z => by rw [z, hh2] at hh1; cases hh1
    have nhl : q18 ≠ lk := fun z => by rw [z, hh3] at hh1; cases hh1
    refine k H18 ⟨dx, q7, q8, q9, q10, q11, q13, q14, q18, ro⟩ (fun b => if b = x then some .sys else if b = q7 then some .tabs else if b = q8 then some .objs else if b = q9 then some .opgs else if b = q10 then some .files else if b = q18 then some .his else if b = ro then some .row else if b = lk then some .lks else none) t18 (fun b g hg => ?_) ?_ a10
    · split at hg
      · rename_i e; exact .inl e
      · refine .inr ?_
        repeat' (split at hg)
        all_goals first | (rename_i e; rw [e]; assumption) | cases hg
    · refine ⟨e18, if_pos rfl, ?_, ?_, ?_, ?_, ⟨[], _, a7, DI.nil, fun _ => True.intro⟩, ⟨[], _, a8, DI.nil, fun k i => cntS_S0 k i⟩, a9, ⟨[], a10, fun _ => rfl, Nat.zero_le _, fun _ z => (nomatch z)⟩, ⟨Int.le_refl _, by decide⟩, ⟨Int.le_refl _, by decide⟩, fun b g hg => ?_, ⟨⟨dh, lk, y, hh1, hh3, ?_⟩, hh2, ?_, ?_⟩⟩
      · simp only [if_neg m7, if_pos]
      · simp only [if_neg m8, if_neg (Ne.symm n7_8), if_pos]
      · simp only [if_neg m9, if_neg (Ne.symm n7_9), if_neg (Ne.symm n8_9), if_pos]
      · simp only [if_neg m10, if_neg (Ne.symm n7_10), if_neg (Ne.symm n8_10), if_neg (Ne.symm n9_10), if_pos]
      · split at hg
        · rename_i e; exact .inl e
        · refine .inr ?_
          repeat' (split at hg)
          all_goals first | (rename_i e; rw [e]; exact ⟨_, by assumption, rfl⟩) | cases hg
      · simp only [if_neg ml, if_neg (Ne.symm n7_l), if_neg (Ne.symm n8_l), if_neg (Ne.symm n9_l), if_neg (Ne.symm n10_l), if_neg (Ne.symm nhl), if_neg (Ne.symm hn4), if_pos]
      · simp only [if_neg mh, if_neg (Ne.symm n7_h), if_neg (Ne.symm n8_h), if_neg (Ne.symm n9_h), if_neg (Ne.symm n10_h), if_pos]
      · simp only [if_neg mr, if_neg (Ne.symm n7_r), if_neg (Ne.symm n8_r), if_neg (Ne.symm n9_r), if_neg (Ne.symm n10_r), if_neg (Ne.symm nhr), if_pos]
/-- a new process, without pages -/
def newS (S : Sys) : Sys := { S with p := S.p + 1, tabs := fun j => if j = S.p + 1 then some fun _ => none else S.tabs j }
theorem cntS_new {S : Sys} (h0 : 0 ≤ S.p) (h : S.p < 1000) (hn : S.tabs (S.p + 1) = none) (k i : Int) : cntS (newS S) k i = cntS S k i := by
  have a := cntS_set (S := S) (a := some fun _ => none) (i := S.p + 1) (by omega) (by omega) k i
  rw [hn] at a
  have b : cO k i (some fun _ => none) = 0 := cntT_none k i
  rw [b] at a
  have c := congrFun (congrFun (cntS_tabs (S := newS S) (S' := S.setTab (S.p + 1) (some fun _ => none)) rfl) k) i
  rw [c]
  simp only [cO] at a
  omega
def spNewP (A : Adr) : Sp := fun vs H Q _ => ∃ (x : Addr) (wh : Wh) (S : Sys) (τ : Tm), vs = [.ref x] ∧ Sr A H x wh S τ ∧ S.p < 1000 ∧ ∀ H' τ', Go τ H τ' H' → Sr A H' x wh (newS S) τ' → Q (.int (S.p + 1)) H'
theorem ok_new_process (G : Txt K mg A) : FnOk P w K mg base CX0 1 A.a_new_process A.fd_new_process p_new_process (spNewP A) := by
  refine G.f_new_process.ok sc_new_process (fun vs H Q E h => ?_) (fun cdv A' outer s H vs Q E hr h => ?_)
  · obtain ⟨x, wh, S, τ, rfl, _⟩ := h
    rfl
  · obtain ⟨x, wh, S, τ, rfl, hS, hl, k⟩ := h
    obtain ⟨cl, a3, a4, a5, a6, a7, a8, a9, a10⟩ := G.sysN
    refine ⟨_, (pss_cons (ps_fldaug (pv 0) pe_int in_add)
  (pss_cons (ps_dput (hu_of hr) (pe_fld (pv 0) rfl) (pe_fld (pv 0) rfl) pe_dnewK rfl)
  (pss_one (ps_ret (pe_fld (pv 0) rfl))))), ?_⟩
    have h1 := hS.hx
    obtain ⟨kvt, ft, ht, dit, rel⟩ := hS.tabs
    have nt : wh.t ≠ x := ne_tag hS.tt hS.tx (by simp)
    have bp := hS.bp
    refine ⟨_, rfl, x, _, _, _, _, rfl, h1, cl, a5, rfl, S.p, 1, rfl, rfl, _, _, h1, (by show 18 < 1000; decide), ?_⟩
    have hx' : (upd H x (.ins A.c_System wh.dx (putF "processes_made" (.int (S.p + 1)) (sysF S.n S.p S.o wh)))) x = some (.ins A.c_System wh.dx (sysF S.n (S.p + 1) S.o wh)) := upd_same
    intro q hq
    obtain ⟨nqx, hq0⟩ := upd_none hq
    have nqt : wh.t ≠ q := ne_of_none ht hq0
    have fn : ft (S.p + 1) = none := by
      have z := rel (S.p + 1)
      cases e : ft (S.p + 1) with
      | none => rfl
      | some v =>
        rw [e] at z
        cases e2 : S.tabs (S.p + 1) with
        | none => rw [e2] at z; exact z.elim
        | some T => rw [e2] at z; have := z.1; omega
    have tn : S.tabs (S.p + 1) = none := by
      have z := rel (S.p + 1)
      rw [fn] at z
      cases e2 : S.tabs (S.p + 1) with
      | none => rfl
      | some T => rw [e2] at z; exact z.elim
    have vn : valV kvt (Sum.inl (S.p + 1)) = none := (dit.val _).trans fn
    have len : kvt.length ≤ 1001 := dit.len fun i hi => by
      have z := rel i
      cases e : ft i with
      | none => rw [e] at hi; cases hi
      | some v =>
        rw [e] at z
        cases e2 : S.tabs i with
        | none => rw [e2] at z; exact z.elim
        | some T => rw [e2] at z; have := z.1; omega
    refine ⟨_, rfl, x, _, _, _, _, rfl, (by rw [upd_ne (Ne.symm nqx)]; exact hx'), cl, a7, rfl, _, rfl, x, _, _, _, _, rfl, (by rw [upd_ne (Ne.symm nqx)]; exact hx'), cl, a5, rfl, wh.t, _, rfl,
      DPut.k (k := Sum.inl (S.p + 1)) (kvs := kvt) (by rw [upd_ne nqt, upd_ne nt]; exact ht) (Nat.lt_of_le_of_lt len (by decide)), ?_⟩
    refine ⟨_, rfl, x, _, _, _, _, rfl, (by rw [upd_ne (Ne.symm nt), upd_ne (Ne.symm nqx)]; exact hx'), cl, a5, rfl, ?_⟩
    have tq := hS.fresh hq0
    have nu : ∀ {b : Addr} {g : Tag}, τ b = some g → b ≠ q := fun t e => by rw [e, tq] at t; cases t
    generalize hHf : upd (upd (upd H x (.ins A.c_System wh.dx (putF "processes_made" (.int (S.p + 1)) (sysF S.n S.p S.o wh)))) q (.dK [])) wh.t (.dK (putK kvt (Sum.inl (S.p + 1)) (.ref q))) = Hf
    have at_ : ∀ {b : Addr}, b ≠ x → b ≠ q → b ≠ wh.t → Hf b = H b := fun n1 n2 n3 => by rw [← hHf, upd_ne n3, upd_ne n2, upd_ne n1]
    have atT : ∀ {b : Addr} {g : Tag}, τ b = some g → g ≠ .sys → g ≠ .tabs → Hf b = H b := fun t n1 n2 => at_ (ne_tag t hS.tx n1) (nu t) (ne_tag t hS.tt n2)
    have hfx : Hf x = some (.ins A.c_System wh.dx (sysF S.n (S.p + 1) S.o wh)) := by rw [← hHf, upd_ne (Ne.symm nt), upd_ne (Ne.symm nqx)]; exact hx'
    have hft : Hf wh.t = some (.dK (putK kvt (Sum.inl (S.p + 1)) (.ref q))) := by rw [← hHf, upd_same]
    have hfq : Hf q = some (.dK []) := by rw [← hHf, upd_ne (Ne.symm nqt), upd_same]
    have im : ImmK H Hf := fun b o e i => by
      have t := hS.immN e i
      rw [at_ (fun z => by rw [z, hS.tx] at t; cases t) (ne_of_none e hq0) (fun z => by rw [z, hS.tt] at t; cases t)]
      exact e
    refine k Hf (setTag τ q (.tab (S.p + 1))) ⟨fun b o n e => ?_, fun b => ?_, fun b xs e => by rw [at_ (fun z => by rw [z, h1] at e; cases e) (ne_of_none e hq0) (fun z => by rw [z, ht] at e; cases e)]; exact e⟩ ?_
    · rw [at_ (fun z => by rw [z, hS.tx] at n; cases n) (ne_of_none e hq0) (fun z => by rw [z, hS.tt] at n; cases n)]
      exact e
    · by_cases z : b = q
      · rw [z]; exact .inr ⟨tq, hq0⟩
      · exact .inl (setTag_ne z)
    · show SyA A.c_System A.c_Page A.c_History Hf x wh (newS S) (setTag τ q (.tab (S.p + 1))) (cntS (newS S))
      have ec : cntS (newS S) = cntS S := by
        funext k i
        exact cntS_new bp.1 hl tn k i
      rw [ec]
      refine ⟨hfx, (setTag_ne (nu hS.tx)).trans hS.tx, (setTag_ne (nu hS.tt)).trans hS.tt, (setTag_ne (nu hS.to)).trans hS.to, (setTag_ne (nu hS.tg)).trans hS.tg, (setTag_ne (nu hS.tf)).trans hS.tf, ?_, ?_, (atT hS.tg (by simp) (by simp)).trans hS.ogs, ?_, ⟨by show 0 ≤ S.p + 1; omega, by show S.p + 1 ≤ 1000; omega⟩, hS.bo, fun b g hg => ?_, hS.his.keep (fun b g t c o e => by rw [atT t (by rcases c with c | c | c <;> rw [c] <;> simp) (by rcases c with c | c | c <;> rw [c] <;> simp)]; exact e) (fun b g t => (setTag_ne (nu t)).trans t)⟩
      · refine ⟨_, _, hft, dit.put _ _, fun i => ?_⟩
        by_cases ei : i = S.p + 1
        · subst ei
          simp only [if_pos]
          show TbO A.c_Page Hf _ (S.p + 1) (S.p + 1) (some (.ref q)) (if S.p + 1 = S.p + 1 then some (fun _ => none) else S.tabs (S.p + 1))
          rw [if_pos rfl]
          exact ⟨by omega, q, rfl, setTag_same, [], _, hfq, DI.nil, fun _ => True.intro⟩
        · simp only [if_neg ei]
          show TbO A.c_Page Hf _ (S.p + 1) i (ft i) (if i = S.p + 1 then some (fun _ => none) else S.tabs i)
          rw [if_neg ei]
          exact (rel i).keep im (fun d td _ => ⟨atT td (by simp) (by simp), setTag_ne (nu td)⟩) (by omega)
      · obtain ⟨kvs, f, g1, g2, g3⟩ := hS.obs
        exact ⟨kvs, f, (atT hS.to (by simp) (by simp)).trans g1, g2, fun i => (g3 i).keep (fun d td _ => ⟨atT td (by simp) (by simp), setTag_ne (nu td)⟩) (Int.le_refl _)⟩
      · obtain ⟨kvs, g1, g2⟩ := hS.fis
        exact ⟨kvs, (atT hS.tf (by simp) (by simp)).trans g1, g2⟩
      · by_cases z : b = q
        · rw [z]; exact .inr ⟨_, hfq, rfl⟩
        · rw [setTag_ne z] at hg
          rcases hS.own b g hg with y | ⟨o, y1, y2⟩
          · exact .inl y
          · by_cases z2 : b = wh.t
            · rw [z2]; exact .inr ⟨_, hft, rfl⟩
            · by_cases z3 : b = x
              · exact .inl z3
              · exact .inr ⟨o, (at_ z3 z z2).trans y1, y2⟩
def spnS (S : Sys) : Sys := { newS S with n := S.n + 1 }
def spSpawn (A : Adr) : Sp := fun vs H Q _ => ∃ (x : Addr) (wh : Wh) (S : Sys) (τ : Tm), vs = [.ref x] ∧ Sr A H x wh S τ ∧ S.p < 1000 ∧ ∀ H' τ', Go τ H τ' H' → Sr A H' x wh (spnS S) τ' → Q (.int (S.p + 1)) H'
theorem ok_spawn (G : Txt K mg A) : FnOk P w K mg base CX0 4 A.a_spawn A.fd_spawn p_spawn (spSpawn A) := by
  refine G.f_spawn.ok sc_spawn (fun vs H Q E h => ?_) (fun cdv A' outer s H vs Q E hr h => ?_)
  · obtain ⟨x, wh, S, τ, rfl, _⟩ := h
    rfl
  · obtain ⟨x, wh, S, τ, rfl, hS, hl, k⟩ := h
    refine ⟨_, (pss_cons (ps_set (i := 1) sc_spawn.nd rfl (Or.inl rfl) (pe_call (ok_new_process G) (hr.mono (by decide)) rfl G.g_new_process G.k_new_process G.bi_new_process .nil pass0 (pa_cons (pv 0) pa_nil)))
  (pss_cons (ps_expr (pe_call (ok_end_step G) (hr.mono (by decide)) rfl G.g_end_step G.k_end_step G.bi_end_step .nil pass0 (pa_cons (pv 0) pa_nil)))
  (pss_one (ps_ret (pv 1))))), ?_⟩
    refine ⟨_, rfl, x, wh, S, τ, rfl, hS, hl, fun H1 τ1 g1 S1 => ?_⟩
    exact ⟨_, rfl, x, wh, _, τ1, rfl, S1, fun H2 τ2 g2 S2 => ⟨_, rfl, k H2 τ2 (g1.trans g2) S2⟩⟩
end
end My
set_option Elab.async false
set_option linter.all false
set_option maxRecDepth 100000
set_option maxHeartbeats 4000000
namespace My
open PySem L2
local macro_rules | `(tactic| walk_at "ds") => `(tactic| dsimp only [tSeq, tIfS, tTest, tB, tAnd, tOr, tNot, tAndV, tOrV, tNotV, tIf, tIsN, tNotN, tOp, tUn, tChain, rI, rI0, rU, tC, tCB, tCons, tNil, tAsg, gName, gSub, tRet, tRetN, tNext, tDrop, tLst, tTup, rIxL, rIxT, rSetL, tVar, tFld, tCall, tDGet, tDIn, tDNotIn, tNever, L2.start, List.map, List.replicate, List.length, List.append, List.cons_append, List.nil_append, List.set, Nat.sub])
local macro_rules | `(tactic| walk_at "hp") => `(tactic| first | assumption | exact upd_same | (refine Eq.trans (upd_ne (by first | assumption | (apply Ne.symm; assumption))) ?_; walk_at "hp"))
local macro_rules | `(tactic| walk_at "sd") => `(tactic| first
  | (show (_ : Int) ≠ 0; omega)
  | (refine (show CDivN _ _ from ⟨?_, ?_⟩) <;> omega)
  | (show CPow _ _; refine ⟨by omega, by omega, by omega⟩)
  | (show CMul _ _; exact Or.inl ⟨by omega, by omega⟩)
  | (show CMul _ _; exact Or.inr ⟨by omega, by omega⟩))
local macro_rules | `(tactic| walk_at "st") => `(tactic| first
  | refine ⟨_, rfl, ?_⟩
  | refine ⟨_, _, rfl, rfl, (by walk_at "sd"), ?_⟩
  | refine ⟨_, _, rfl, rfl, ?_⟩
  | refine ⟨_, _, _, _, rfl, rfl, SqL.of (by walk_at "hp"), rfl, ?_⟩
  | refine ⟨_, _, _, _, rfl, rfl, (by walk_at "hp"), rfl, ?_⟩
  | refine .inl ⟨_, rfl, ?_⟩
  | refine ⟨_, _, _, _, _, rfl, (by walk_at "hp"), (by assumption), (by assumption), rfl, ?_⟩
  | refine ⟨_, _, rfl, .inl (SqL.of (by walk_at "hp")), ?_⟩)
local macro_rules | `(tactic| walk_at "go") => `(tactic| repeat (first | walk_at "st" | (walk_at "ds"; walk_at "st")))
local macro_rules | `(tactic| walk_at "ni") => `(tactic| dsimp (config := { proj := false }) only [tNil, List.cons_append, List.nil_append])
/-- a truth -/
def tTru (K : PySem.W.Frag) (t : TE) : TT := fun σ H Q => t σ H fun x H' => ∃ k, TruV K x H' k ∧ Q k H'
abbrev FLs : List Str := ["lock", "merge", "stay", "wipe"]
def flV (f : Fl) (n : Str) : Bool := if n = "merge" then f.m else if n = "stay" then f.s else if n = "wipe" then f.w else false
theorem FLs_fl (f : Fl) : FLs.filter (flV f) = flL f := by
  obtain ⟨a, b, c⟩ := f
  cases a <;> cases b <;> cases c <;> decide +kernel
theorem inV_fl (f : Fl) : ∀ n ∈ FLs, inV (.str n) ((flL f).map V.str) = flV f n := by
  obtain ⟨a, b, c⟩ := f
  cases a <;> cases b <;> cases c <;> decide +kernel
theorem flV_lock (f : Fl) : flV f "lock" = false := by
  unfold flV
  rw [if_neg (by decide +kernel), if_neg (by decide +kernel), if_neg (by decide +kernel)]
theorem flV_m (f : Fl) : flV f "merge" = f.m := if_pos rfl
theorem flV_s (f : Fl) : flV f "stay" = f.s := by unfold flV; rw [if_neg (by decide +kernel), if_pos rfl]
theorem flV_w (f : Fl) : flV f "wipe" = f.w := by unfold flV; rw [if_neg (by decide +kernel), if_neg (by decide +kernel), if_pos rfl]
section
variable {P : Program} {w : World} {K : PySem.W.Frag} {mg : Str → Option Value} {base : Heap} {A : Adr}
theorem flags_tup {H : Hp} (G : Txt K mg A) : SqT K H A.o_FLAGS (FLs.map V.str) := by
  have h := G.r_FLAGS
  unfold flagsIn at h
  split at h
  · rename_i dd its n sl hl
    split at h
    · rename_i x t1 y t2 z t3 u t4 he
      simp only [Bool.and_eq_true, beq_iff_eq] at h
      obtain ⟨⟨⟨rfl, rfl⟩, rfl⟩, rfl⟩ := h
      refine .inr ⟨_, its, n, hl, rfl, rfl, ?_, ?_⟩
      · have : its.size = 4 := by rw [← Array.length_toList, he]; rfl
        rw [this]; decide
      · rw [he]
        exact .cons ⟨_, rfl⟩ (.cons ⟨_, rfl⟩ (.cons ⟨_, rfl⟩ (.cons ⟨_, rfl⟩ .nil)))
    · cases h
  · cases h
def spWith (A : Adr) (nw : V → V → V → V → V → V → V → List V) : Sp := fun vs H Q _ => ∃ (p : Addr) (r s so i f h v : V), vs = [.ref p, v] ∧ PgAt A.c_Page H p r s so i f h ∧
  ∀ y H', Same H H' → (∃ r' s' so' i' f' h', nw r s so i f h v = [r', s', so', i', f', h'] ∧ PgAt A.c_Page H' y r' s' so' i' f' h') → Q (.ref y) H'
theorem ok_with_flags (G : Txt K mg A) : FnOk P w K mg base CX0 3 A.a_with_flags A.fd_with_flags p_with_flags (spWith A fun r s so i f h v => [r, s, so, i, v, h]) := by
  refine G.f_with_flags.ok sc_with_flags (fun vs H Q E h => ?_) (fun cdv A' outer s H vs Q E hr h => ?_)
  · obtain ⟨p, r, s, so, i, f, h, v, rfl, _⟩ := h
    rfl
  · obtain ⟨p, r, s, so, i, f, h, v, rfl, ⟨dx, e⟩, k⟩ := h
    refine ⟨_, (pss_one (ps_ret (pe_make G.mk_Page (ok_Page_init G) (hr.mono (by decide)) rfl G.g_Page G.bi_Page_init .nil pass0 (pa_cons (pe_fld (pv 0) rfl) (pa_cons (pe_fld (pv 0) rfl) (pa_cons (pe_fld (pv 0) rfl) (pa_cons (pe_fld (pv 0) rfl) (pa_cons (pv 1) (pa_cons (pe_fld (pv 0) rfl) (pa_cons (pe_fld (pv 0) rfl) pa_nil)))))))))), ?_⟩
    refine ⟨_, rfl, p, _, _, _, _, rfl, e, G.cl_Page, G.n_Page_rights, rfl, _, rfl, p, _, _, _, _, rfl, e, G.cl_Page, G.n_Page_shared, rfl, _, rfl, p, _, _, _, _, rfl, e, G.cl_Page, G.n_Page_source, rfl,
      _, rfl, p, _, _, _, _, rfl, e, G.cl_Page, G.n_Page_index, rfl, _, rfl, _, rfl, p, _, _, _, _, rfl, e, G.cl_Page, G.n_Page_held, rfl, _, rfl, p, _, _, _, _, rfl, e, G.cl_Page, G.n_Page_stamp, rfl, ?_⟩
    intro y dy hy hdy ne
    exact ⟨y, dy, _, _, _, _, _, _, _, rfl, upd_same, fun H5 b5 pg => ⟨rfl, k y H5 (same_made hy hdy b5) ⟨_, _, _, _, _, _, rfl, pg⟩⟩⟩
theorem flags_flat (f : Fl) : ((flL f).map V.str).all flatV = true := by
  obtain ⟨a, b, c⟩ := f
  cases a <;> cases b <;> cases c <;> rfl
theorem flags_stay (f : Fl) : inV (.str "stay") ((flL f).map V.str) = f.s := by
  obtain ⟨a, b, c⟩ := f
  cases a <;> cases b <;> cases c <;> decide +kernel
theorem flags_len (f : Fl) : ((flL f).map V.str).length ≤ 3 := by
  obtain ⟨a, b, c⟩ := f
  cases a <;> cases b <;> cases c <;> decide
end
end My
set_option Elab.async false
set_option linter.all false
set_option maxRecDepth 100000
set_option maxHeartbeats 4000000
namespace My
open PySem L2
local macro_rules | `(tactic| walk_at "ds") => `(tactic| dsimp only [tSeq, tIfS, tTest, tB, tAnd, tOr, tNot, tAndV, tOrV, tNotV, tIf, tIsN, tNotN, tOp, tUn, tChain, rI, rI0, rU, tC, tCB, tCons, tNil, tAsg, gName, gSub, tRet, tRetN, tNext, tDrop, tLst, tTup, rIxL, rIxT, rSetL, tVar, tFld, tCall, tDGet, tDIn, tDNotIn, tNever, L2.start, List.map, List.replicate, List.length, List.append, List.cons_append, List.nil_append, List.set, Nat.sub])
local macro_rules | `(tactic| walk_at "hp") => `(tactic| first | assumption | exact upd_same | (refine Eq.trans (upd_ne (by first | assumption | (apply Ne.symm; assumption))) ?_; walk_at "hp"))
local macro_rules | `(tactic| walk_at "sd") => `(tactic| first
  | (show (_ : Int) ≠ 0; omega)
  | (refine (show CDivN _ _ from ⟨?_, ?_⟩) <;> omega)
  | (show CPow _ _; refine ⟨by omega, by omega, by omega⟩)
  | (show CMul _ _; exact Or.inl ⟨by omega, by omega⟩)
  | (show CMul _ _; exact Or.inr ⟨by omega, by omega⟩))
local macro_rules | `(tactic| walk_at "st") => `(tactic| first
  | refine ⟨_, rfl, ?_⟩
  | refine ⟨_, _, rfl, rfl, (by walk_at "sd"), ?_⟩
  | refine ⟨_, _, rfl, rfl, ?_⟩
  | refine ⟨_, _, _, _, rfl, rfl, SqL.of (by walk_at "hp"), rfl, ?_⟩
  | refine ⟨_, _, _, _, rfl, rfl, (by walk_at "hp"), rfl, ?_⟩
  | refine .inl ⟨_, rfl, ?_⟩
  | refine ⟨_, _, _, _, _, rfl, (by walk_at "hp"), (by assumption), (by assumption), rfl, ?_⟩
  | refine ⟨_, _, rfl, .inl (SqL.of (by walk_at "hp")), ?_⟩)
local macro_rules | `(tactic| walk_at "go") => `(tactic| repeat (first | walk_at "st" | (walk_at "ds"; walk_at "st")))
local macro_rules | `(tactic| walk_at "ni") => `(tactic| dsimp (config := { proj := false }) only [tNil, List.cons_append, List.nil_append])
section
variable {P : Program} {w : World} {K : PySem.W.Frag} {mg : Str → Option Value} {base : Heap} {A : Adr}
theorem ok_with_held (G : Txt K mg A) : FnOk P w K mg base CX0 3 A.a_with_held A.fd_with_held p_with_held (spWith A fun r s so i f h v => [r, s, so, i, f, v]) := by
  refine G.f_with_held.ok sc_with_held (fun vs H Q E h => ?_) (fun cdv A' outer s H vs Q E hr h => ?_)
  · obtain ⟨p, r, s, so, i, f, h, v, rfl, _⟩ := h
    rfl
  · obtain ⟨p, r, s, so, i, f, h, v, rfl, ⟨dx, e⟩, k⟩ := h
    refine ⟨_, (pss_one (ps_ret (pe_make G.mk_Page (ok_Page_init G) (hr.mono (by decide)) rfl G.g_Page G.bi_Page_init .nil pass0 (pa_cons (pe_fld (pv 0) rfl) (pa_cons (pe_fld (pv 0) rfl) (pa_cons (pe_fld (pv 0) rfl) (pa_cons (pe_fld (pv 0) rfl) (pa_cons (pe_fld (pv 0) rfl) (pa_cons (pv 1) (pa_cons (pe_fld (pv 0) rfl) pa_nil)))))))))), ?_⟩
    refine ⟨_, rfl, p, _, _, _, _, rfl, e, G.cl_Page, G.n_Page_rights, rfl, _, rfl, p, _, _, _, _, rfl, e, G.cl_Page, G.n_Page_shared, rfl, _, rfl, p, _, _, _, _, rfl, e, G.cl_Page, G.n_Page_source, rfl,
      _, rfl, p, _, _, _, _, rfl, e, G.cl_Page, G.n_Page_index, rfl, _, rfl, p, _, _, _, _, rfl, e, G.cl_Page, G.n_Page_flags, rfl, _, rfl, _, rfl, p, _, _, _, _, rfl, e, G.cl_Page, G.n_Page_stamp, rfl, ?_⟩
    intro y dy hy hdy ne
    exact ⟨y, dy, _, _, _, _, _, _, _, rfl, upd_same, fun H5 b5 pg => ⟨rfl, k y H5 (same_made hy hdy b5) ⟨_, _, _, _, _, _, rfl, pg⟩⟩⟩
def spLock (A : Adr) : Sp := fun vs H Q _ => ∃ (p : Addr) (g : Pg), vs = [.ref p, .bl false] ∧ PgR A.c_Page H p g ∧ ∀ y H', Same H H' → PgR A.c_Page H' y g → Q (.ref y) H'
theorem ok_with_lock (G : Txt K mg A) : FnOk P w K mg base CX0 4 A.a_with_lock A.fd_with_lock p_with_lock (spLock A) := by
  refine G.f_with_lock.ok sc_with_lock (fun vs H Q E h => ?_) (fun cdv A' outer s H vs Q E hr h => ?_)
  · obtain ⟨p, g, rfl, _⟩ := h
    rfl
  · obtain ⟨p, g, rfl, hp, k⟩ := h
    obtain ⟨dx, sv, fa, e, hs, hf⟩ := hp
    refine ⟨_, (pss_cons (ps_set (i := 2) sc_with_lock.nd rfl (Or.inr rfl) (pe_dc (own := [("name", 3)]) (g := gName 3) (tt := tYes) (tv := tOp (rIn K false) (tVar 3) (tFld K (tVar 0) "flags")) rfl sc_with_lock.nd (pi_tup (pe_glob (v := .ref A.o_FLAGS) rfl G.g_FLAGS rfl)) (blkOk_by (own := [("name", 3)]) (N := n_with_lock) (sc := defScope s_with_lock) (by decide +kernel)) (fun _ _ _ _ _ => pg_name (i := 3) sc_with_lock.nd rfl (Or.inl rfl)) (fun _ _ _ _ _ => pts_nil) (fun _ _ _ _ _ => (pv 3)) (fun _ _ _ _ _ => (pe_cmpR (r := rIn K false) op_in_seq (pv 3) (pe_fld (pv 0) rfl) (by rfl)))))
  (pss_cons (ps_dput (hu_of hr) (pv 2) pe_str (pv 1) rfl)
  (pss_one (ps_ret (pe_call (ok_with_flags G) (hr.mono (by decide)) rfl G.g_with_flags G.k_with_flags G.bi_with_flags .nil pass0 (pa_cons (pv 0) (pa_cons (pe_callTy call_tuple_of (by rfl) G.b_tuple (by decide +kernel) (pa_cons (pe_lc (own := [("name", 3)]) (g := gName 3) (tt := (tTru K (tDGet (tVar 2) (tVar 3)))) rfl sc_with_lock.nd (pi_tup (pe_glob (v := .ref A.o_FLAGS) rfl G.g_FLAGS rfl)) (blkOk_by (own := [("name", 3)]) (N := n_with_lock) (sc := defScope s_with_lock) (by decide +kernel)) (fun _ _ _ _ _ => pg_name (i := 3) sc_with_lock.nd rfl (Or.inl rfl)) (fun _ _ _ _ _ => pts_one (pt_truth (pe_dget (hu_of hr) (pv 2) (pv 3) (fun _ _ => rfl)) (by intro _; rfl))) (fun _ _ _ _ _ => (pv 3))) pa_nil)) pa_nil))))))), ?_⟩
    refine ⟨_, rfl, ⟨_, flags_tup G⟩, fun D hD => ?_⟩
    refine dc_walk (walk_tup (K := K) (a := A.o_FLAGS) (xs := FLs.map V.str)) (fun j Z => Same H Z ∧ ∃ ls, Z D = some (.dK ls) ∧ ls.length ≤ j ∧ ∀ n ∈ FLs.take j, valV ls (Sum.inr n) = some (.bl (flV g.fl n)))
      ⟨Same.new hD, [], upd_same, Nat.zero_le _, fun n h => (nomatch h)⟩ (fun j Z _ _ => flags_tup G) ?_ ?_
    · rintro j y Z0 Z hj ⟨sz, ls, z1, z2, z3⟩ ⟨rfl, hy⟩
      obtain ⟨n, hn, rfl⟩ : ∃ n, FLs[j]? = some n ∧ V.str n = y := by
        rw [List.getElem?_map] at hy
        cases e : FLs[j]? with
        | none => rw [e] at hy; cases hy
        | some n => rw [e] at hy; exact ⟨n, rfl, Option.some.inj hy⟩
      have hm : n ∈ FLs := List.mem_of_getElem? hn
      refine ⟨rfl, ?_⟩
      dsimp only [tYes]
      have j4 : j < 4 := hj
      refine iteT ⟨_, rfl, _, rfl, _, rfl, p, _, _, _, _, rfl, sz _ _ e, G.cl_Page, G.n_Page_flags, rfl, fa, _, rfl, .inr (SqT.of (sz _ _ hf)), rfl, flags_flat _, ls, Sum.inr n, rfl, z1, Nat.lt_of_le_of_lt (by omega : ls.length ≤ 10000) (by decide), fun b o ho => ?_, _, upd_same, ?_, fun u hu => ?_⟩
      · rw [upd_ne (ne_of_none ho hD)]
        exact sz _ _ ho
      · have := length_putK ls (Sum.inr n : Key) (V.bl (inV (.str n) ((flL g.fl).map V.str)))
        show (putK ls (Sum.inr n : Key) (V.bl (inV (.str n) ((flL g.fl).map V.str)))).length ≤ j + 1
        omega
      · show valV (putK ls (Sum.inr n : Key) (V.bl (inV (.str n) ((flL g.fl).map V.str)))) (Sum.inr u) = _
        rw [valV_put, inV_fl g.fl n hm]
        rw [take_succ hn] at hu
        by_cases e : u = n
        · rw [if_pos (by rw [e]), e]
        · rw [if_neg fun z => e (Sum.inr.inj z)]
          rcases List.mem_append.mp hu with h | h
          · exact z3 u h
          · exact absurd (List.mem_singleton.mp h) e
    · rintro Z ⟨sz, ls, z1, z2, z3⟩
      have z4 : ∀ n ∈ FLs, valV ls (Sum.inr n) = some (.bl (flV g.fl n)) := fun n hn => z3 n (by rw [show FLs.take (FLs.map V.str).length = FLs from rfl]; exact hn)
      have l4 : ls.length ≤ 4 := z2
      refine ⟨_, rfl, _, rfl, D, _, rfl, DPut.k (k := Sum.inr "lock") z1 (Nat.lt_of_le_of_lt (by omega : ls.length ≤ 10000) (by decide)), ?_⟩
      have y3 : ∀ n ∈ FLs, valV (putK ls (Sum.inr "lock") (V.bl false)) (Sum.inr n) = some (.bl (flV g.fl n)) := fun n hn => by
        rw [valV_put]
        by_cases en : n = "lock"
        · rw [if_pos (by rw [en]), en, flV_lock]
        · rw [if_neg fun z => en (Sum.inr.inj z)]
          exact z4 n hn
      have sY : Same H (upd Z D (.dK (putK ls (Sum.inr "lock") (V.bl false)))) := fun b o e => by
        rw [upd_ne (ne_of_none e hD)]; exact sz _ _ e
      have y1' : (upd Z D (.dK (putK ls (Sum.inr "lock") (V.bl false)))) D = some (.dK (putK ls (Sum.inr "lock") (V.bl false))) := upd_same
      generalize upd Z D (.dK (putK ls (Sum.inr "lock") (V.bl false))) = Y' at *
      generalize putK ls (Sum.inr "lock") (V.bl false) = ls2 at *
      clear z1 z3 z4 sz
      refine ⟨_, rfl, _, rfl, ⟨_, flags_tup G⟩, fun R hR => ?_⟩
      refine lc_it (walk_tup (K := K) (a := A.o_FLAGS) (xs := FLs.map V.str)) (fun j X => Same Y' X ∧ X R = some (.lst (((FLs.take j).filter (flV g.fl)).map V.str)))
        ⟨Same.new hR, upd_same⟩ (fun j X _ _ => flags_tup G) ?_ ?_
      · rintro j y X0 X hj ⟨sx, x1⟩ ⟨rfl, hy⟩
        obtain ⟨n, hn, rfl⟩ : ∃ n, FLs[j]? = some n ∧ V.str n = y := by
          rw [List.getElem?_map] at hy
          cases e : FLs[j]? with
          | none => rw [e] at hy; cases hy
          | some n => rw [e] at hy; exact ⟨n, rfl, Option.some.inj hy⟩
        have hm : n ∈ FLs := List.mem_of_getElem? hn
        have tk := take_succ hn
        have cl := y3 n hm
        refine ⟨rfl, ?_⟩
        refine ⟨_, rfl, _, rfl, D, .bl _, rfl, (by rw [← cl]; exact DGet.k (k := Sum.inr n) (sx _ _ y1')), _, rfl, ?_⟩
        have e3 : (FLs.take (j + 1)).filter (flV g.fl) = (FLs.take j).filter (flV g.fl) ++ if flV g.fl n = true then [n] else [] := by
          rw [tk, List.filter_append]
          congr 1
          rw [List.filter_cons]
          split <;> rfl
        refine iteB (fun e => ?_) (fun e => ?_)
        · rw [if_pos e] at e3
          have lf := List.length_filter_le (flV g.fl) (FLs.take j)
          have lt := List.length_take_le j FLs
          have j4 : j < 4 := hj
          refine ⟨_, rfl, _, x1, ?_, fun b o ho => ?_, ?_⟩
          · rw [List.length_map]
            exact Nat.lt_of_le_of_lt (by omega : _ ≤ 10000) (by decide)
          · rw [upd_ne (ne_of_none ho hR)]
            exact sx _ _ ho
          · rw [upd_same, e3, List.map_append]
            rfl
        · rw [if_neg (by rw [e]; exact Bool.false_ne_true), List.append_nil] at e3
          exact ⟨sx, by rw [e3]; exact x1⟩
      · rintro X ⟨sx, x1⟩
        rw [show FLs.take (FLs.map V.str).length = FLs from rfl, FLs_fl] at x1
        refine ⟨R, _, rfl, .inl ⟨SqL.of x1, fun t ht => ?_⟩⟩
        have st := Same.new (o := .tup ((flL g.fl).map V.str)) ht
        have s1 := sY.trans (sx.trans st)
        refine ⟨p, _, _, _, _, _, _, _, rfl, ⟨dx, s1 _ _ e⟩, fun y2 H2 s2 pg2 => ?_⟩
        obtain ⟨r', s', so', i', f', h', el, dx2, pg2⟩ := pg2
        cases el
        exact k y2 H2 (s1.trans s2) ⟨dx2, sv, t, pg2, hs.keep (ImmK.same (s1.trans s2)), s2 _ _ upd_same⟩
def spChild (A : Adr) : Sp := fun vs H Q _ => ∃ (p : Addr) (g : Pg) (n : Int), vs = [.ref p, .int n] ∧ PgR A.c_Page H p g ∧ ∀ y H', Same H H' → PgR A.c_Page H' y g → Q (.ref y) H'
theorem ok_child_page (G : Txt K mg A) : FnOk P w K mg base CX0 5 A.a_child_page A.fd_child_page p_child_page (spChild A) := by
  refine G.f_child_page.ok sc_child_page (fun vs H Q E h => ?_) (fun cdv A' outer s H vs Q E hr h => ?_)
  · obtain ⟨p, g, n, rfl, _⟩ := h
    rfl
  · obtain ⟨p, g, n, rfl, hp, k⟩ := h
    refine ⟨_, (pss_cons (ps_set (i := 2) sc_child_page.nd rfl (Or.inl rfl) (pe_call (ok_with_lock G) (hr.mono (by decide)) rfl G.g_with_lock G.k_with_lock G.bi_with_lock .nil pass0 (pa_cons (pv 0) (pa_cons pe_bl pa_nil))))
  (pss_cons (ps_if (PW.pt (pw_and (pt_cmpR (r := rIn K false) op_in_seq pe_str (pe_fld (pv 0) rfl) (by rfl)) (pw_and1 (pt_not (pt_val (pe_fld (pv 0) rfl)))))) (pss_one (ps_ret (pe_call (ok_with_stamp G) (hr.mono (by decide)) rfl G.g_with_stamp G.k_with_stamp G.bi_with_stamp .nil pass0 (pa_cons (pe_call (ok_with_held G) (hr.mono (by decide)) rfl G.g_with_held G.k_with_held G.bi_with_held .nil pass0 (pa_cons (pv 2) (pa_cons pe_non pa_nil))) (pa_cons (pv 1) pa_nil))))) pss_nil)
  (pss_one (ps_ret (pv 2))))), ?_⟩
    refine ⟨_, rfl, p, g, rfl, hp, fun y1 H1 s1 hp1 => ?_⟩
    obtain ⟨dx, sv, fa, e, hs, hf⟩ := hp.keep (ImmK.same s1)
    obtain ⟨dx1, sv1, fa1, e1, hs1, hf1⟩ := id hp1
    dsimp only [gName, List.set]
    refine tIfS_s (b := inV (.str "wipe") ((flL g.fl).map V.str) && !g.sh) (fun Q' q' => ?_) (fun c Y sY => ?_) (fun c Y sY => ?_)
    · refine ⟨_, rfl, p, _, _, _, _, rfl, e, G.cl_Page, G.n_Page_flags, rfl, fa, _, rfl, .inr (SqT.of hf), rfl, flags_flat _, _, rfl, ?_⟩
      cases ew : inV (.str "wipe") ((flL g.fl).map V.str) with
      | false =>
        rw [ew] at q'
        exact iteF (q' H1 (Same.refl _))
      | true =>
        rw [ew] at q'
        refine iteT ⟨_, rfl, p, _, _, _, _, rfl, e, G.cl_Page, G.n_Page_shared, rfl, _, rfl, ?_⟩
        exact q' H1 (Same.refl _)
    · have hp2 := hp1.keep (ImmK.same sY)
      obtain ⟨dx2, sv2, fa2, e2, hs2, hf2⟩ := hp2
      refine ⟨_, rfl, y1, _, _, _, _, _, _, _, rfl, ⟨dx2, e2⟩, fun y3 H3 s3 pg3 => ?_⟩
      obtain ⟨r', s', so', i', f', h', el, dx3, e3⟩ := pg3
      cases el
      refine ⟨_, rfl, y3, _, _, _, _, _, _, n, rfl, ⟨dx3, e3⟩, fun y4 H4 s4 pg4 => ?_⟩
      obtain ⟨dx4, e4⟩ := pg4
      have s34 := s3.trans s4
      exact k y4 H4 (s1.trans (sY.trans s34)) ⟨dx4, sv2, fa2, e4, hs2.keep (ImmK.same s34), s34 _ _ hf2⟩
    · exact ⟨_, rfl, k y1 Y (s1.trans sY) (hp1.keep (ImmK.same sY))⟩
end
end My
set_option Elab.async false
set_option linter.all false
set_option maxRecDepth 100000
set_option maxHeartbeats 4000000
namespace My
open PySem L2
local macro_rules | `(tactic| walk_at "ds") => `(tactic| dsimp only [tSeq, tIfS, tTest, tB, tAnd, tOr, tNot, tAndV, tOrV, tNotV, tIf, tIsN, tNotN, tOp, tUn, tChain, rI, rI0, rU, tC, tCB, tCons, tNil, tAsg, gName, gSub, tRet, tRetN, tNext, tDrop, tLst, tTup, rIxL, rIxT, rSetL, tVar, tFld, tCall, tDGet, tDIn, tDNotIn, tNever, L2.start, List.map, List.replicate, List.length, List.append, List.cons_append, List.nil_append, List.set, Nat.sub])
local macro_rules | `(tactic| walk_at "hp") => `(tactic| first | assumption | exact upd_same | (refine Eq.trans (upd_ne (by first | assumption | (apply Ne.symm; assumption))) ?_; walk_at "hp"))
local macro_rules | `(tactic| walk_at "sd") => `(tactic| first
  | (show (_ : Int) ≠ 0; omega)
  | (refine (show CDivN _ _ from ⟨?_, ?_⟩) <;> omega)
  | (show CPow _ _; refine ⟨by omega, by omega, by omega⟩)
  | (show CMul _ _; exact Or.inl ⟨by omega, by omega⟩)
  | (show CMul _ _; exact Or.inr ⟨by omega, by omega⟩))
local macro_rules | `(tactic| walk_at "st") => `(tactic| first
  | refine ⟨_, rfl, ?_⟩
  | refine ⟨_, _, rfl, rfl, (by walk_at "sd"), ?_⟩
  | refine ⟨_, _, rfl, rfl, ?_⟩
  | refine ⟨_, _, _, _, rfl, rfl, SqL.of (by walk_at "hp"), rfl, ?_⟩
  | refine ⟨_, _, _, _, rfl, rfl, (by walk_at "hp"), rfl, ?_⟩
  | refine .inl ⟨_, rfl, ?_⟩
  | refine ⟨_, _, _, _, _, rfl, (by walk_at "hp"), (by assumption), (by assumption), rfl, ?_⟩
  | refine ⟨_, _, rfl, .inl (SqL.of (by walk_at "hp")), ?_⟩)
local macro_rules | `(tactic| walk_at "go") => `(tactic| repeat (first | walk_at "st" | (walk_at "ds"; walk_at "st")))
local macro_rules | `(tactic| walk_at "ni") => `(tactic| dsimp (config := { proj := false }) only [tNil, List.cons_append, List.nil_append])
section
variable {P : Program} {w : World} {K : PySem.W.Frag} {mg : Str → Option Value} {base : Heap} {A : Adr}
def spUnA (A : Adr) : Sp := fun vs H Q _ => ∃ (x : Addr) (wh : Wh) (S : Sys) (τ : Tm) (i : Int) (T : Tb), vs = [.ref x, .int i] ∧ Sr A H x wh S τ ∧ S.tabs i = some T ∧ ∀ H' τ', Go τ H τ' H' → Sr A H' x wh (S.setTab i (some fun _ => none)) τ' → Q .non H'
theorem ok_unmap_all (G : Txt K mg A) : FnOk P w K mg base CX0 4 A.a_unmap_all A.fd_unmap_all p_unmap_all (spUnA A) := by
  refine G.f_unmap_all.ok sc_unmap_all (fun vs H Q E h => ?_) (fun cdv A' outer s H vs Q E hr h => ?_)
  · obtain ⟨x, wh, S, τ, i, T, rfl, _⟩ := h
    rfl
  · obtain ⟨x, wh, S, τ, i, T, rfl, hS, eT, k⟩ := h
    obtain ⟨cl, a3, a4, a5, a6, a7, a8, a9, a10⟩ := G.sysN
    refine ⟨_, (pss_one (ps_expr (pe_call (ok_replace_pages G) (hr.mono (by decide)) rfl G.g_replace_pages G.k_replace_pages G.bi_replace_pages .nil pass0 (pa_cons (pv 0) (pa_cons (pv 1) (pa_cons (pe_lock (pe_dc (own := [("number", 2)]) (g := gName 2) (tt := tYes) rfl sc_unmap_all.nd (pi_keys (pe_dget (hu_of hr) (pe_fld (pv 0) rfl) (pv 1) (fun _ _ => rfl))) (blkOk_by (own := [("number", 2)]) (N := n_unmap_all) (sc := defScope s_unmap_all) (by decide +kernel)) (fun _ _ _ _ _ => pg_name (i := 2) sc_unmap_all.nd rfl (Or.inl rfl)) (fun _ _ _ _ _ => pts_nil) (fun _ _ _ _ _ => (pv 2)) (fun _ _ _ _ _ => pe_non))) pa_nil)))))), ?_⟩
    obtain ⟨d, hd⟩ := hS.living eT
    obtain ⟨bi, td, tkvs, tf, hdk, tdi, tpg⟩ := hS.tabE hd eT
    obtain ⟨kvt, ht, hvt⟩ := id hd
    have dom : ∀ i, (tf i).isSome = true → 0 ≤ i ∧ i < (512 : Nat) := fun i z => by
      have := (tpg i).low z
      omega
    have lt := tdi.len dom
    refine ⟨_, rfl, _, rfl, d, _, hdk, trivial, fun od => ?_⟩
    have nx : x ≠ d := ne_tag hS.tx td (by simp)
    have nt : wh.t ≠ d := ne_tag hS.tt td (by simp)
    refine ⟨_, rfl, x, _, _, _, _, rfl, (by rw [upd_ne nx]; exact hS.hx), cl, a7, rfl, _, rfl, wh.t, _, rfl, (by rw [← hvt]; exact DGet.k (k := Sum.inl i) (by rw [upd_ne nt]; exact ht)), d, od, rfl, .inl ⟨tkvs, upd_same, fun D hD => ?_⟩⟩
    obtain ⟨nDd, hD0⟩ := upd_none hD
    refine dc_walk walk_keys (fun j Z => Z d = some (.frz od (.dK tkvs)) ∧ (∀ b o, b ≠ d → H b = some o → Z b = some o) ∧ ∃ ls, Z D = some (.dK ls) ∧ LsR A.c_Page H ls (keyCh (fun _ => some none) ((intsOf tkvs).take j)))
      ⟨by rw [upd_ne (Ne.symm nDd), upd_same], fun b o n e => by rw [upd_ne (ne_of_none e hD0), upd_ne n]; exact e, [], upd_same, True.intro⟩ (fun j Z _ z => z.1) ?_ ?_
    · rintro j y Z0 Z hj ⟨zd, sz, ls, z1, z2⟩ ⟨rfl, key, v, hkv, rfl⟩
      obtain ⟨n, en, _⟩ := tdi.of_mem (List.mem_of_getElem? hkv)
      simp only at en
      subst en
      have hn : (intsOf tkvs)[j]? = some n := by
        unfold intsOf
        rw [List.getElem?_map, hkv]
        rfl
      have tk := take_succ hn
      refine ⟨rfl, ?_⟩
      dsimp only [tYes]
      have vn : valV ls (Sum.inl n) = none := z2.val_none fun q hq e => by
        have m := (keyCh_mem hq).1
        rw [e] at m
        have nd := tdi.nodI
        rw [← List.take_append_drop j (intsOf tkvs)] at nd
        refine (List.nodup_append.mp nd).2.2 n m n ?_ rfl
        obtain ⟨h1, e1⟩ := List.getElem?_eq_some_iff.mp hn
        rw [List.drop_eq_getElem_cons h1, e1]
        exact List.mem_cons_self
      have ll := z2.length
      have kl := keyCh_length (fun _ => some none) ((intsOf tkvs).take j)
      have tl := List.length_take_le j (intsOf tkvs)
      refine iteT ⟨_, rfl, ls, Sum.inl n, rfl, z1, Nat.lt_of_le_of_lt (by omega : ls.length ≤ 10000) (by decide), ?_, fun b o n e => ?_, _, upd_same, ?_⟩
      · rw [upd_ne (Ne.symm nDd)]
        exact zd
      · rw [upd_ne (ne_of_none e hD0)]
        exact sz _ _ n e
      · rw [putK_new _ vn, tk, keyCh_snoc]
        exact LsR.snoc (kv := (Sum.inl n, V.non)) (q := (n, none)) rfl rfl z2
    · rintro Z ⟨zd, sz, ls, z1, z2⟩
      have il : (intsOf tkvs).take tkvs.length = intsOf tkvs := by rw [← intsOf_length]; exact List.take_length
      rw [il] at z2
      refine ⟨zd, ?_⟩
      have s1 : Same H (upd Z d (.dK tkvs)) := fun b o e => by
        by_cases eb : b = d
        · rw [eb, upd_same, ← hdk, ← eb, e]
        · rw [upd_ne eb]
          exact sz _ _ eb e
      have tD := hS.fresh hD0
      refine ⟨x, wh, S, τ, i, D, ls, _, T, rfl, hS.same s1, eT, by rw [upd_ne nDd]; exact z1, tD, z2.keep (ImmK.same s1), keyCh_nod tdi.nodI, fun q hq => ?_, fun q hq g eg => ?_, fun H2 τ2 go2 S2 => k H2 τ2 ((Go.same s1).trans go2) ?_⟩
      · have := dom q.1 ((tdi.memI q.1).mp (keyCh_mem hq).1)
        omega
      · have := (keyCh_mem hq).2
        rw [eg] at this
        cases this
      · have e : appT T (keyCh (fun _ => some none) (intsOf tkvs)) = fun _ => none := by
          funext n
          rw [appT_key tdi.nodI]
          by_cases hm : n ∈ intsOf tkvs
          · rw [if_pos hm]; rfl
          · rw [if_neg hm]
            have z := tpg n
            cases ev : tf n with
            | none =>
              rw [ev] at z
              cases eT2 : T n with
              | none => rfl
              | some g => rw [eT2] at z; exact z.elim
            | some v => exact absurd ((tdi.memI n).mpr (by rw [ev]; rfl)) hm
        rw [e] at S2
        exact S2
def spEndP (A : Adr) : Sp := fun vs H Q _ => ∃ (x : Addr) (wh : Wh) (S : Sys) (τ : Tm) (i : Int) (T : Tb), vs = [.ref x, .int i] ∧ Sr A H x wh S τ ∧ S.tabs i = some T ∧ ∀ H' τ', Go τ H τ' H' → Sr A H' x wh (S.setTab i none) τ' → Q .non H'
theorem ok_end_process (G : Txt K mg A) : FnOk P w K mg base CX0 5 A.a_end_process A.fd_end_process p_end_process (spEndP A) := by
  refine G.f_end_process.ok sc_end_process (fun vs H Q E h => ?_) (fun cdv A' outer s H vs Q E hr h => ?_)
  · obtain ⟨x, wh, S, τ, i, T, rfl, _⟩ := h
    rfl
  · obtain ⟨x, wh, S, τ, i, T, rfl, hS, eT, k⟩ := h
    obtain ⟨cl, a3, a4, a5, a6, a7, a8, a9, a10⟩ := G.sysN
    refine ⟨_, (pss_cons (ps_expr (pe_call (ok_unmap_all G) (hr.mono (by decide)) rfl G.g_unmap_all G.k_unmap_all G.bi_unmap_all .nil pass0 (pa_cons (pv 0) (pa_cons (pv 1) pa_nil))))
  (pss_one (ps_ddel (pe_fld (pv 0) rfl) (pv 1)))), ?_⟩
    refine ⟨_, rfl, _, rfl, x, wh, S, τ, i, T, rfl, hS, eT, fun H1 τ1 go1 S1 => ?_⟩
    have eT1 := setTab_at S i (some fun _ => none)
    obtain ⟨d, hd⟩ := S1.living eT1
    obtain ⟨bi, _⟩ := S1.tabE hd eT1
    obtain ⟨kvt, ht, hvt⟩ := hd
    have bp := S1.bp
    refine ⟨_, rfl, x, _, _, _, _, rfl, S1.hx, cl, a7, rfl, _, rfl, wh.t, kvt, Sum.inl i, rfl, ht, rfl, by rw [hvt]; rfl, k _ τ1 (go1.trans (Go.upd (by rw [S1.tt]; simp) ht)) ?_⟩
    have r := S1.dropTab (i := i) ht
    rw [setTab_two] at r
    refine r.cong fun a b => ?_
    have c := cntS_drop (S := S.setTab i (some fun _ => none)) (i := i) (by omega) (by omega) eT1 a b
    rw [setTab_two] at c
    exact c.symm
def spLeave (A : Adr) : Sp := fun vs H Q E => ∃ (x : Addr) (wh : Wh) (S : Sys) (τ : Tm) (who : V), vs = [.ref x, who] ∧ Sr A H x wh S τ ∧ AnyV H who ∧
  ((∀ i, who = .int i → S.tabs i = none) → Rz A.c_NoProcess "process" who H E) ∧ ∀ i T, who = .int i → S.tabs i = some T → ∀ H' τ', Go τ H τ' H' → Sr A H' x wh (endS S i) τ' → Q .non H'
theorem ok_leave (G : Txt K mg A) : FnOk P w K mg base (L2.CX P w) 6 A.a_leave A.fd_leave p_leave (spLeave A) := by
  refine G.f_leave.okX sc_leave (fun vs H Q E h => ?_) (fun cdv A' outer s H vs Q E hr h => ?_)
  · obtain ⟨x, wh, S, τ, who, rfl, _⟩ := h
    rfl
  · obtain ⟨x, wh, S, τ, who, rfl, hS, hv, k1, k2⟩ := h
    refine ⟨_, (pss_cons (ps_expr (pe_call (ok_table_of G) (hr.mono (by decide)) rfl G.g_table_of G.k_table_of G.bi_table_of .nil (passes_call (takes_of rfl rfl rfl rfl) (fun _ _ _ _ z => z)) (pa_cons (pv 0) (pa_cons (pv 1) pa_nil))))
  (pss_cons (ps_expr (pe_call (ok_end_process G) (hr.mono (by decide)) rfl G.g_end_process G.k_end_process G.bi_end_process .nil pass0 (pa_cons (pv 0) (pa_cons (pv 1) pa_nil))))
  (pss_one (ps_expr (pe_call (ok_end_step G) (hr.mono (by decide)) rfl G.g_end_step G.k_end_step G.bi_end_step .nil pass0 (pa_cons (pv 0) pa_nil)))))), ?_⟩
    refine ⟨_, rfl, _, rfl, x, wh, S, τ, _, who, rfl, hS, hv, fun i d e hd => ?_, k1⟩
    subst e
    obtain ⟨T, eT, _⟩ := hS.tab hd
    exact ⟨_, rfl, _, rfl, x, wh, S, τ, i, T, rfl, hS, eT, fun H1 τ1 go1 S1 => ⟨_, rfl, x, wh, _, τ1, rfl, S1, fun H2 τ2 go2 S2 => k2 i T rfl eT H2 τ2 (go1.trans go2) S2⟩⟩
def spFresh (A : Adr) : Sp := fun vs H Q E => ∃ (x : Addr) (wh : Wh) (S : Sys) (τ : Tm) (who : V), vs = [.ref x, who] ∧ Sr A H x wh S τ ∧ AnyV H who ∧
  ((∀ i, who = .int i → S.tabs i = none) → Rz A.c_NoProcess "process" who H E) ∧ ∀ i T, who = .int i → S.tabs i = some T → ∀ H' τ', Go τ H τ' H' → Sr A H' x wh (freshS S i) τ' → Q .non H'
theorem ok_fresh (G : Txt K mg A) : FnOk P w K mg base (L2.CX P w) 6 A.a_fresh A.fd_fresh p_fresh (spFresh A) := by
  refine G.f_fresh.okX sc_fresh (fun vs H Q E h => ?_) (fun cdv A' outer s H vs Q E hr h => ?_)
  · obtain ⟨x, wh, S, τ, who, rfl, _⟩ := h
    rfl
  · obtain ⟨x, wh, S, τ, who, rfl, hS, hv, k1, k2⟩ := h
    refine ⟨_, (pss_cons (ps_expr (pe_call (ok_table_of G) (hr.mono (by decide)) rfl G.g_table_of G.k_table_of G.bi_table_of .nil (passes_call (takes_of rfl rfl rfl rfl) (fun _ _ _ _ z => z)) (pa_cons (pv 0) (pa_cons (pv 1) pa_nil))))
  (pss_cons (ps_expr (pe_call (ok_unmap_all G) (hr.mono (by decide)) rfl G.g_unmap_all G.k_unmap_all G.bi_unmap_all .nil pass0 (pa_cons (pv 0) (pa_cons (pv 1) pa_nil))))
  (pss_one (ps_expr (pe_call (ok_end_step G) (hr.mono (by decide)) rfl G.g_end_step G.k_end_step G.bi_end_step .nil pass0 (pa_cons (pv 0) pa_nil)))))), ?_⟩
    refine ⟨_, rfl, _, rfl, x, wh, S, τ, _, who, rfl, hS, hv, fun i d e hd => ?_, k1⟩
    subst e
    obtain ⟨T, eT, _⟩ := hS.tab hd
    exact ⟨_, rfl, _, rfl, x, wh, S, τ, i, T, rfl, hS, eT, fun H1 τ1 go1 S1 => ⟨_, rfl, x, wh, _, τ1, rfl, S1, fun H2 τ2 go2 S2 => k2 i T rfl eT H2 τ2 (go1.trans go2) S2⟩⟩
end
end My
set_option Elab.async false
set_option linter.all false
set_option maxRecDepth 100000
set_option maxHeartbeats 4000000
namespace My
open PySem L2
local macro_rules | `(tactic| walk_at "ds") => `(tactic| dsimp only [tSeq, tIfS, tTest, tB, tAnd, tOr, tNot, tAndV, tOrV, tNotV, tIf, tIsN, tNotN, tOp, tUn, tChain, rI, rI0, rU, tC, tCB, tCons, tNil, tAsg, gName, gSub, tRet, tRetN, tNext, tDrop, tLst, tTup, rIxL, rIxT, rSetL, tVar, tFld, tCall, tDGet, tDIn, tDNotIn, tNever, L2.start, List.map, List.replicate, List.length, List.append, List.cons_append, List.nil_append, List.set, Nat.sub])
local macro_rules | `(tactic| walk_at "hp") => `(tactic| first | assumption | exact upd_same | (refine Eq.trans (upd_ne (by first | assumption | (apply Ne.symm; assumption))) ?_; walk_at "hp"))
local macro_rules | `(tactic| walk_at "sd") => `(tactic| first
  | (show (_ : Int) ≠ 0; omega)
  | (refine (show CDivN _ _ from ⟨?_, ?_⟩) <;> omega)
  | (show CPow _ _; refine ⟨by omega, by omega, by omega⟩)
  | (show CMul _ _; exact Or.inl ⟨by omega, by omega⟩)
  | (show CMul _ _; exact Or.inr ⟨by omega, by omega⟩))
local macro_rules | `(tactic| walk_at "st") => `(tactic| first
  | refine ⟨_, rfl, ?_⟩
  | refine ⟨_, _, rfl, rfl, (by walk_at "sd"), ?_⟩
  | refine ⟨_, _, rfl, rfl, ?_⟩
  | refine ⟨_, _, _, _, rfl, rfl, SqL.of (by walk_at "hp"), rfl, ?_⟩
  | refine ⟨_, _, _, _, rfl, rfl, (by walk_at "hp"), rfl, ?_⟩
  | refine .inl ⟨_, rfl, ?_⟩
  | refine ⟨_, _, _, _, _, rfl, (by walk_at "hp"), (by assumption), (by assumption), rfl, ?_⟩
  | refine ⟨_, _, rfl, .inl (SqL.of (by walk_at "hp")), ?_⟩)
local macro_rules | `(tactic| walk_at "go") => `(tactic| repeat (first | walk_at "st" | (walk_at "ds"; walk_at "st")))
local macro_rules | `(tactic| walk_at "ni") => `(tactic| dsimp (config := { proj := false }) only [tNil, List.cons_append, List.nil_append])
section
variable {P : Program} {w : World} {K : PySem.W.Frag} {mg : Str → Option Value} {base : Heap} {A : Adr}
def forkF (T : Tb) : Int → Option (Option Pg) := fun n => (T n).bind fun g => if g.fl.s = true then none else some (some g)
def spPoc (A : Adr) : Sp := fun vs H Q _ => ∃ (x : Addr) (wh : Wh) (S : Sys) (τ : Tm) (i : Int) (d : Addr) (T : Tb), vs = [.ref x, .ref d] ∧ Sr A H x wh S τ ∧ TabOf H wh i d ∧ S.tabs i = some T ∧
  ∀ H1 D ls tkvs tf, Same H H1 → H D = none → H1 D = some (.dK ls) → H d = some (.dK tkvs) → DI tkvs tf → (∀ i, PgO A.c_Page H i (tf i) (T i)) → LsR A.c_Page H1 ls (keyCh (forkF T) (intsOf tkvs)) → Q (.ref D) H1
theorem ok_pages_of_child (G : Txt K mg A) : FnOk P w K mg base CX0 6 A.a_pages_of_child A.fd_pages_of_child p_pages_of_child (spPoc A) := by
  refine G.f_pages_of_child.ok sc_pages_of_child (fun vs H Q E h => ?_) (fun cdv A' outer s H vs Q E hr h => ?_)
  · obtain ⟨x, wh, S, τ, i, d, T, rfl, _⟩ := h
    rfl
  · obtain ⟨x, wh, S, τ, i, d, T, rfl, hS, hd, eT, k⟩ := h
    obtain ⟨bi, td, tkvs, tf, hdk, tdi, tpg⟩ := hS.tabE hd eT
    refine ⟨_, (pss_cons (ps_set (i := 2) sc_pages_of_child.nd rfl (Or.inr rfl) (pe_call (ok_this_step G) (hr.mono (by decide)) rfl G.g_this_step G.k_this_step G.bi_this_step .nil pass0 (pa_cons (pv 0) pa_nil)))
  (pss_one (ps_ret (pe_lock (pe_dc (own := [("number", 3), ("page", 4)]) (g := gTup K 2 (gCons (gName 3) (gCons (gName 4) (gNil)))) (tt := tTest (tOp (rIn K true) (tC (V.str "stay")) (tFld K (tVar 4) "flags"))) rfl sc_pages_of_child.nd (pi_items (pv 1)) (blkOk_by (own := [("number", 3), ("page", 4)]) (N := n_pages_of_child) (sc := defScope s_pages_of_child) (by decide +kernel)) (fun _ _ _ _ _ => pg_tup rfl (pgs_cons (pg_name (i := 3) sc_pages_of_child.nd rfl (Or.inl rfl)) (pgs_cons (pg_name (i := 4) sc_pages_of_child.nd rfl (Or.inl rfl)) pgs_nil))) (fun _ _ _ _ _ => pts_one (pt_cmpR (r := rIn K true) op_notIn_seq pe_str (pe_fld (pv 4) rfl) (by rfl))) (fun _ _ _ _ _ => (pv 3)) (fun _ _ _ _ _ => (pe_call (ok_child_page G) (hr.mono (by decide)) rfl G.g_child_page G.k_child_page G.bi_child_page .nil pass0 (pa_cons (pv 4) (pa_cons (pv 2) pa_nil))))))))), ?_⟩
    refine ⟨_, rfl, x, wh, S, τ, _, rfl, hS, ?_⟩
    have dom : ∀ i, (tf i).isSome = true → 0 ≤ i ∧ i < (512 : Nat) := fun i z => by
      have := (tpg i).low z
      omega
    have lt := tdi.len dom
    -- the pages
    refine ⟨d, _, hdk, trivial, fun od => ?_⟩
    refine ⟨_, rfl, d, od, tkvs, rfl, upd_same, fun D hD => ?_⟩
    obtain ⟨nDd, hD0⟩ := upd_none hD
    refine dc_walk walk_items (fun j Z => Z d = some (.frz od (.dK tkvs)) ∧ (∀ b o, b ≠ d → H b = some o → Z b = some o) ∧ ∃ ls, Z D = some (.dK ls) ∧ LsR A.c_Page Z ls (keyCh (forkF T) ((intsOf tkvs).take j)))
      ⟨by rw [upd_ne (Ne.symm nDd), upd_same], fun b o n e => by rw [upd_ne (ne_of_none e hD0), upd_ne n]; exact e, [], upd_same, True.intro⟩ (fun j Z _ z => z.1) ?_ ?_
    · rintro j y Z1 Z2 hj ⟨zd, sz, ls, z1, z2⟩ ⟨T0, k0, v0, rfl, hT0, rfl, hk0, hv0⟩
      obtain ⟨⟨key, v⟩, hkv⟩ : ∃ q, tkvs[j]? = some q := ⟨tkvs[j], List.getElem?_eq_getElem hj⟩
      have hk1 : some (kV key) = some k0 := by have h := hk0; simp only [hkv] at h; exact h
      have hv1 : some v = some v0 := by have h := hv0; simp only [hkv] at h; exact h
      have hk2 := Option.some.inj hk1
      have hv2 := Option.some.inj hv1
      subst hk2 hv2
      obtain ⟨n, en, ef⟩ := tdi.of_mem (List.mem_of_getElem? hkv)
      simp only at en ef
      subst en
      have hn : (intsOf tkvs)[j]? = some n := by
        unfold intsOf
        rw [List.getElem?_map, hkv]
        rfl
      have tk := take_succ hn
      have rel := tpg n
      rw [ef] at rel
      obtain ⟨g, eg⟩ : ∃ g, T n = some g := by
        cases eg : T n with
        | none => rw [eg] at rel; exact rel.elim
        | some g => exact ⟨g, rfl⟩
      rw [eg] at rel
      obtain ⟨nb, wf, p', rfl, hp'⟩ := rel
      have s0 := Same.new (o := .tup [kV (Sum.inl n), .ref p']) hT0
      have im1 : ImmK H Z1 := fun b o e i => sz b o (fun z => by rw [z, hdk] at e; cases e; cases i) e
      have hp1 := (hp'.keep im1).keep (ImmK.same s0)
      obtain ⟨dx, sv, fa, e1, e2, e3⟩ := id hp1
      refine ⟨T0, _, rfl, SqT.of upd_same, rfl, _, _, rfl, _, _, rfl, rfl, rfl, ?_⟩
      refine ⟨_, rfl, p', _, _, _, _, rfl, e1, G.cl_Page, G.n_Page_flags, rfl, fa, _, rfl, .inr (SqT.of e3), rfl, flags_flat _, _, rfl, ?_⟩
      rw [if_pos rfl, flags_stay]
      have hT1 : ∀ {b : Addr} {o : HO}, Z1 b = some o → (upd Z1 T0 (.tup [kV (Sum.inl n), .ref p'])) b = some o := fun e => s0 _ _ e
      generalize hZ3 : upd Z1 T0 (.tup [kV (Sum.inl n), .ref p']) = Z3 at *
      cases est : g.fl.s with
      | true =>
        refine iteF ⟨s0 _ _ zd, fun b o n e => s0 _ _ (sz _ _ n e), ls, s0 _ _ z1, ?_⟩
        have ff : forkF T n = none := by unfold forkF; rw [eg]; show (if g.fl.s = true then none else some (some g)) = none; rw [if_pos est]
        rw [tk, keyCh_snoc, ff, List.append_nil]
        exact z2.keep (ImmK.same s0)
      | false =>
        have ff : forkF T n = some (some g) := by unfold forkF; rw [eg]; show (if g.fl.s = true then none else some (some g)) = _; rw [if_neg (by rw [est]; exact Bool.false_ne_true)]
        refine iteT ⟨_, rfl, _, rfl, _, rfl, p', g, S.n + 1, rfl, hp1, fun y2 H4 s4 hy2 => ?_⟩
        have vn : valV ls (Sum.inl n) = none := z2.val_none fun q hq e => by
          have m := (keyCh_mem hq).1
          rw [e] at m
          have nd := tdi.nodI
          rw [← List.take_append_drop j (intsOf tkvs)] at nd
          refine (List.nodup_append.mp nd).2.2 n m n ?_ rfl
          obtain ⟨h1, e1⟩ := List.getElem?_eq_some_iff.mp hn
          rw [List.drop_eq_getElem_cons h1, e1]
          exact List.mem_cons_self
        have ll := z2.length
        have kl := keyCh_length (forkF T) ((intsOf tkvs).take j)
        have tl := List.length_take_le j (intsOf tkvs)
        have s5 := s0.trans s4
        refine ⟨ls, Sum.inl n, rfl, s5 _ _ z1, Nat.lt_of_le_of_lt (by omega : ls.length ≤ 10000) (by decide), ?_, fun b o n e => ?_, _, upd_same, ?_⟩
        · rw [upd_ne (Ne.symm nDd)]
          exact s5 _ _ zd
        · rw [upd_ne (ne_of_none e hD0)]
          exact s5 _ _ (sz _ _ n e)
        · rw [putK_new _ vn, tk, keyCh_snoc, ff]
          have im := ImmK.upd (u := .dK (ls ++ [(Sum.inl n, .ref y2)])) (s5 _ _ z1) rfl
          exact LsR.snoc (kv := (Sum.inl n, V.ref y2)) (q := (n, some g)) rfl (show PgV _ _ (.ref y2) (some g) from ⟨wf, y2, rfl, hy2.keep im⟩) ((z2.keep (ImmK.same s5)).keep im)
    · rintro Z ⟨zd, sz, ls, z1, z2⟩
      have il : (intsOf tkvs).take tkvs.length = intsOf tkvs := by rw [← intsOf_length]; exact List.take_length
      rw [il] at z2
      refine ⟨zd, ?_⟩
      have s1 : Same H (upd Z d (.dK tkvs)) := fun b o e => by
        by_cases eb : b = d
        · rw [eb, upd_same, ← hdk, ← eb, e]
        · rw [upd_ne eb]
          exact sz _ _ eb e
      have imd : ImmK Z (upd Z d (.dK tkvs)) := ImmK.upd zd rfl
      exact k _ D ls tkvs tf s1 hD0 (by rw [upd_ne nDd]; exact z1) hdk tdi tpg (z2.keep imd)
def spFork (A : Adr) : Sp := fun vs H Q E => ∃ (x : Addr) (wh : Wh) (S : Sys) (τ : Tm) (who : V), vs = [.ref x, who] ∧ Sr A H x wh S τ ∧ AnyV H who ∧ S.p < 1000 ∧
  ((∀ i, who = .int i → S.tabs i = none) → Rz A.c_NoProcess "process" who H E) ∧ ∀ i T, who = .int i → S.tabs i = some T → ∀ H' τ', Go τ H τ' H' → Sr A H' x wh (forkS S T) τ' → Q (.int (S.p + 1)) H'
theorem ok_fork (G : Txt K mg A) : FnOk P w K mg base (L2.CX P w) 7 A.a_fork A.fd_fork p_fork (spFork A) := by
  refine G.f_fork.okX sc_fork (fun vs H Q E h => ?_) (fun cdv A' outer s H vs Q E hr h => ?_)
  · obtain ⟨x, wh, S, τ, who, rfl, _⟩ := h
    rfl
  · obtain ⟨x, wh, S, τ, who, rfl, hS, hv, hl, k1, k2⟩ := h
    obtain ⟨cl, a3, a4, a5, a6, a7, a8, a9, a10⟩ := G.sysN
    refine ⟨_, (pss_cons (ps_set (i := 2) sc_fork.nd rfl (Or.inl rfl) (pe_call (ok_pages_of_child G) (hr.mono (by decide)) rfl G.g_pages_of_child G.k_pages_of_child G.bi_pages_of_child .nil pass0 (pa_cons (pv 0) (pa_cons (pe_call (ok_table_of G) (hr.mono (by decide)) rfl G.g_table_of G.k_table_of G.bi_table_of .nil (passes_call (takes_of rfl rfl rfl rfl) (fun _ _ _ _ z => z)) (pa_cons (pv 0) (pa_cons (pv 1) pa_nil))) pa_nil))))
  (pss_cons (ps_expr (pe_call (ok_require_charge G) (hr.mono (by decide)) rfl G.g_require_charge G.k_require_charge G.bi_require_charge .nil (passes_call (takes_of rfl rfl rfl rfl) (fun _ _ _ _ z => z)) (pa_cons (pv 0) (pa_cons (pe_disp (pps_cons (pe_op op_add (pe_fld (pv 0) rfl) pe_int) (pv 2) pps_nil) (by rfl) (by rfl) (fun z => by cases z) (by decide)) (pa_cons pe_dnewK pa_nil)))))
  (pss_cons (ps_set (i := 3) sc_fork.nd rfl (Or.inl rfl) (pe_call (ok_new_process G) (hr.mono (by decide)) rfl G.g_new_process G.k_new_process G.bi_new_process .nil pass0 (pa_cons (pv 0) pa_nil)))
  (pss_cons (ps_expr (pe_call (ok_replace_pages G) (hr.mono (by decide)) rfl G.g_replace_pages G.k_replace_pages G.bi_replace_pages .nil pass0 (pa_cons (pv 0) (pa_cons (pv 3) (pa_cons (pv 2) pa_nil)))))
  (pss_cons (ps_expr (pe_call (ok_end_step G) (hr.mono (by decide)) rfl G.g_end_step G.k_end_step G.bi_end_step .nil pass0 (pa_cons (pv 0) pa_nil)))
  (pss_one (ps_ret (pv 3)))))))), ?_⟩
    refine ⟨_, rfl, _, rfl, _, rfl, x, wh, S, τ, _, who, rfl, hS, hv, fun i d e hd => ?_, k1⟩
    subst e
    obtain ⟨T, eT, _⟩ := hS.tab hd
    obtain ⟨bi, td, tkvs, tf, hdk, tdi, tpg⟩ := hS.tabE hd eT
    have k3 := k2 i T rfl eT
    clear k1 k2
    have dom : ∀ i, (tf i).isSome = true → 0 ≤ i ∧ i < (512 : Nat) := fun i z => by
      have := (tpg i).low z
      omega
    refine ⟨x, wh, S, τ, i, d, T, rfl, hS, hd, eT, fun H1 D ls tkvs' tf' s1 hD0 hD1 hdk' tdi' tpg' z3 => ?_⟩
    obtain rfl : tkvs = tkvs' := by rw [hdk] at hdk'; cases hdk'; rfl
    obtain rfl : tf = tf' := by funext n; rw [← tdi.val, ← tdi'.val]
    have tD := hS.fresh hD0
    have S1 := hS.same s1
    -- the charge, the child
    refine ⟨_, rfl, fun u0 hu0 => ?_⟩
    have s80 := Same.new (o := .dK []) hu0
    refine ⟨_, rfl, x, _, _, _, _, rfl, s80 _ _ S1.hx, cl, a5, rfl, _, _, rfl, rfl, _, rfl, upd_same, [(Sum.inl (S.p + 1), V.ref D)], rfl, (by show 1 ≤ 15; decide), fun e he => ?_⟩
    have s9 : Same H1 (upd (upd (upd H1 u0 (.dK [])) u0 (.dK (mergeK [] [(Sum.inl (S.p + 1), V.ref D)]))) e (.dK [])) := fun b o eb => by
      have b0 : b ≠ u0 := ne_of_none eb hu0
      rw [upd_ne (ne_of_none (show (upd (upd H1 u0 (.dK [])) u0 (.dK (mergeK [] [(Sum.inl (S.p + 1), V.ref D)]))) b = some o by rw [upd_ne b0, upd_ne b0]; exact eb) he), upd_ne b0, upd_ne b0]
      exact eb
    refine ⟨x, wh, S, τ, _, _, _, rfl, S1.same s9, ?_⟩
    have S1 := S1.same s9
    have hD1 := s9 _ _ hD1
    have z3 := z3.keep (ImmK.same s9)
    have s1 := s1.trans s9
    generalize upd (upd (upd H1 u0 (.dK [])) u0 (.dK (mergeK [] [(Sum.inl (S.p + 1), V.ref D)]))) e (.dK []) = H1 at *
    refine ⟨_, rfl, x, wh, S, τ, rfl, S1, hl, fun H2 τ2 go2 S2 => ?_⟩
    have e2 : (newS S).tabs (S.p + 1) = some fun _ => none := if_pos rfl
    have tD2 : τ2 D = none := by
      rcases go2.ex D with z | z
      · exact z.trans tD
      · rw [hD1] at z; cases z.2
    have nt : S.tabs (S.p + 1) = none := by
      cases e : S.tabs (S.p + 1) with
      | none => rfl
      | some T' =>
        obtain ⟨d', hd'⟩ := hS.living e
        have := (hS.tabE hd' e).1
        omega
    refine ⟨_, rfl, _, rfl, _, rfl, x, wh, newS S, τ2, S.p + 1, D, ls, _, _, rfl, S2, e2, go2.fr _ _ tD hD1, tD2, z3.keep (S1.imm go2), keyCh_nod tdi.nodI, fun q hq => ?_, fun q hq g eg j ej => ?_, fun H3 τ3 go3 S3 => ?_⟩
    · have := dom q.1 ((tdi.memI q.1).mp (keyCh_mem hq).1)
      omega
    · have ff := (keyCh_mem hq).2
      rw [eg] at ff
      unfold forkF at ff
      cases eT2 : T q.1 with
      | none => rw [eT2] at ff; cases ff
      | some g' =>
        rw [eT2] at ff
        have ff' : (if g'.fl.s = true then none else some (some g')) = some (some g) := ff
        split at ff'
        · cases ff'
        · cases ff'
          exact hS.pgOb eT eT2 ej
    · refine ⟨_, rfl, x, wh, _, τ3, rfl, S3, fun H4 τ4 go4 S4 => ⟨_, rfl, k3 H4 τ4 ((Go.same s1).trans (go2.trans (go3.trans go4))) ?_⟩⟩
      have e : appT (fun _ => none) (keyCh (forkF T) (intsOf tkvs)) = childT T := by
        funext n
        rw [appT_key tdi.nodI]
        have z := tpg n
        by_cases hm : n ∈ intsOf tkvs
        · rw [if_pos hm]
          unfold forkF childT childG
          cases T n with
          | none => rfl
          | some g => show (if g.fl.s = true then none else some (some g)).getD none = if g.fl.s = true then none else some g; split <;> rfl
        · rw [if_neg hm]
          cases ev : tf n with
          | none =>
            rw [ev] at z
            cases eT2 : T n with
            | none => unfold childT; rw [eT2]; rfl
            | some g => rw [eT2] at z; exact z.elim
          | some v => exact absurd ((tdi.memI n).mpr (by rw [ev]; rfl)) hm
      rw [e] at S4
      refine S4.tabsEq ?_
      have : (fun j => if j = S.p + 1 then some (childT T) else (newS S).tabs j) = fun j => if j = S.p + 1 then some (childT T) else S.tabs j := by
        funext j
        by_cases ej : j = S.p + 1
        · rw [if_pos ej, if_pos ej]
        · rw [if_neg ej, if_neg ej]
          exact if_neg ej
      show ({ n := S.n + 1, p := S.p + 1, o := S.o, tabs := fun j => if j = S.p + 1 then some (childT T) else (newS S).tabs j, fls := S.fls } : Sys) = { n := S.n + 1, p := S.p + 1, o := S.o, tabs := fun j => if j = S.p + 1 then some (childT T) else S.tabs j, fls := S.fls }
      rw [this]
end
end My
set_option Elab.async false
set_option linter.all false
set_option maxRecDepth 100000
set_option maxHeartbeats 4000000
namespace My
open PySem L2
local macro_rules | `(tactic| walk_at "ds") => `(tactic| dsimp only [tSeq, tIfS, tTest, tB, tAnd, tOr, tNot, tAndV, tOrV, tNotV, tIf, tIsN, tNotN, tOp, tUn, tChain, rI, rI0, rU, tC, tCB, tCons, tNil, tAsg, gName, gSub, tRet, tRetN, tNext, tDrop, tLst, tTup, rIxL, rIxT, rSetL, tVar, tFld, tCall, tDGet, tDIn, tDNotIn, tNever, L2.start, List.map, List.replicate, List.length, List.append, List.cons_append, List.nil_append, List.set, Nat.sub])
local macro_rules | `(tactic| walk_at "hp") => `(tactic| first | assumption | exact upd_same | (refine Eq.trans (upd_ne (by first | assumption | (apply Ne.symm; assumption))) ?_; walk_at "hp"))
local macro_rules | `(tactic| walk_at "sd") => `(tactic| first
  | (show (_ : Int) ≠ 0; omega)
  | (refine (show CDivN _ _ from ⟨?_, ?_⟩) <;> omega)
  | (show CPow _ _; refine ⟨by omega, by omega, by omega⟩)
  | (show CMul _ _; exact Or.inl ⟨by omega, by omega⟩)
  | (show CMul _ _; exact Or.inr ⟨by omega, by omega⟩))
local macro_rules | `(tactic| walk_at "st") => `(tactic| first
  | refine ⟨_, rfl, ?_⟩
  | refine ⟨_, _, rfl, rfl, (by walk_at "sd"), ?_⟩
  | refine ⟨_, _, rfl, rfl, ?_⟩
  | refine ⟨_, _, _, _, rfl, rfl, SqL.of (by walk_at "hp"), rfl, ?_⟩
  | refine ⟨_, _, _, _, rfl, rfl, (by walk_at "hp"), rfl, ?_⟩
  | refine .inl ⟨_, rfl, ?_⟩
  | refine ⟨_, _, _, _, _, rfl, (by walk_at "hp"), (by assumption), (by assumption), rfl, ?_⟩
  | refine ⟨_, _, rfl, .inl (SqL.of (by walk_at "hp")), ?_⟩)
local macro_rules | `(tactic| walk_at "go") => `(tactic| repeat (first | walk_at "st" | (walk_at "ds"; walk_at "st")))
local macro_rules | `(tactic| walk_at "ni") => `(tactic| dsimp (config := { proj := false }) only [tNil, List.cons_append, List.nil_append])
section
variable {P : Program} {w : World} {K : PySem.W.Frag} {mg : Str → Option Value} {base : Heap} {A : Adr}
variable {H : Hp} {x : Addr} {wh : Wh} {S : Sys} {τ : Tm} {i f c t : Int} {T : Tb} {Q : VK} {E : XK}
theorem only {i j : Int} {T T' : Tb} (e : S.tabs i = some T) (h1 : V.int i = V.int j) (h2 : S.tabs j = some T') : j = i ∧ T' = T := by
  have e1 := V.int.inj h1
  subst e1
  rw [e] at h2
  exact ⟨rfl, (Option.some.inj h2).symm⟩
theorem livg {i : Int} {T : Tb} {R : Prop} (e : S.tabs i = some T) (z : ∀ j, V.int i = V.int j → S.tabs j = none) : R := by
  have := z i rfl
  rw [e] at this
  cases this
theorem noR {lo hi i : Int} {R : Prop} (h0 : lo ≤ i) (h1 : i ≤ hi) (z : inR lo hi (.int i) = false) : R := by
  rw [inR_of h0 h1] at z
  cases z
theorem use_unmap (hS : Sr A H x wh S τ) (eT : S.tabs i = some T) (f0 : 0 ≤ f) (c0 : 1 ≤ c) (fc : f + c ≤ 512) (k : ∀ H' τ', Go τ H τ' H' → Sr A H' x wh (unmS S i T f c) τ' → Q .non H') : spUnmap A [.ref x, .int i, .int f, .int c] H Q E := by
  refine ⟨x, wh, S, τ, .int i, .int f, .int c, rfl, hS, ⟨.int _, .int _, .int _⟩, livg eT, fun i' T' e1 e2 => ?_⟩
  obtain ⟨rfl, rfl⟩ := only eT e1 e2
  refine ⟨noR f0 (by omega), fun f' ef _ _ => ?_⟩
  have e1 := V.int.inj ef
  subst e1
  refine ⟨noR c0 (by omega), fun c' ec _ _ => ?_⟩
  have e1 := V.int.inj ec
  subst e1
  exact k
theorem use_move (hS : Sr A H x wh S τ) (eT : S.tabs i = some T) (f0 : 0 ≤ f) (c0 : 1 ≤ c) (fc : f + c ≤ 512) (t0 : 0 ≤ t) (tc : t + c ≤ 512) (ap : t + c ≤ f ∨ f + c ≤ t) (all : ∀ j, f ≤ j → j < f + c → mpd T j = true)
    (k : ∀ H' τ', Go τ H τ' H' → Sr A H' x wh (movS S i T f c t) τ' → Q .non H') : spMove A [.ref x, .int i, .int f, .int c, .int t] H Q E := by
  refine ⟨x, wh, S, τ, .int i, .int f, .int c, .int t, rfl, hS, ⟨.int _, .int _, .int _, .int _⟩, livg eT, fun i' T' e1 e2 => ?_⟩
  obtain ⟨rfl, rfl⟩ := only eT e1 e2
  refine ⟨noR f0 (by omega), fun f' ef _ _ => ?_⟩
  have e1 := V.int.inj ef
  subst e1
  refine ⟨noR c0 (by omega), fun c' ec _ _ => ?_⟩
  have e1 := V.int.inj ec
  subst e1
  have ok : okTo f c (.int t) = true := by
    unfold okTo
    rw [Bool.and_eq_true, Bool.or_eq_true, decide_eq_true_eq, decide_eq_true_eq, decide_eq_true_eq]
    exact ⟨⟨t0, by omega⟩, ap⟩
  refine ⟨fun z => absurd (ok.symm.trans z) (by decide), fun _ => ⟨fun n n0 n1 nm _ => absurd ((all n n0 n1).symm.trans nm) (by decide), fun t' et _ => ?_⟩⟩
  have e1 := V.int.inj et
  subst e1
  exact k
theorem use_leave (hS : Sr A H x wh S τ) (eT : S.tabs i = some T) (k : ∀ H' τ', Go τ H τ' H' → Sr A H' x wh (endS S i) τ' → Q .non H') : spLeave A [.ref x, .int i] H Q E := by
  refine ⟨x, wh, S, τ, .int i, rfl, hS, .int _, livg eT, fun i' T' e1 e2 => ?_⟩
  obtain ⟨rfl, rfl⟩ := only eT e1 e2
  exact k
theorem use_fresh (hS : Sr A H x wh S τ) (eT : S.tabs i = some T) (k : ∀ H' τ', Go τ H τ' H' → Sr A H' x wh (freshS S i) τ' → Q .non H') : spFresh A [.ref x, .int i] H Q E := by
  refine ⟨x, wh, S, τ, .int i, rfl, hS, .int _, livg eT, fun i' T' e1 e2 => ?_⟩
  obtain ⟨rfl, rfl⟩ := only eT e1 e2
  exact k
theorem use_fork (hS : Sr A H x wh S τ) (eT : S.tabs i = some T) (lt : S.p < 1000) (k : ∀ H' τ', Go τ H τ' H' → Sr A H' x wh (forkS S T) τ' → Q (.int (S.p + 1)) H') : spFork A [.ref x, .int i] H Q E := by
  refine ⟨x, wh, S, τ, .int i, rfl, hS, .int _, lt, livg eT, fun i' T' e1 e2 => ?_⟩
  obtain ⟨rfl, rfl⟩ := only eT e1 e2
  exact k
theorem use_regs {cnt : Int → Int → Nat} (hS : Sa A H x wh S τ cnt) (eT : S.tabs i = some T) (k : ∀ q rows H', Same H H' → H q = none → H' q = some (.lst rows) → RowsR H' rows (regL T) → Q (.ref q) H') : spRegs A [.ref x, .int i] H Q E := by
  refine ⟨x, wh, S, τ, cnt, .int i, rfl, hS, .int _, livg eT, fun i' T' e1 e2 => ?_⟩
  obtain ⟨rfl, rfl⟩ := only eT e1 e2
  exact k
/-- map_pages on arguments that are right: the source is told by what it says -/
theorem use_map {r : Str} {sh : Bool} {sov av : V} {s : Src} {ix : Int} (hS : Sr A H x wh S τ) (eT : S.tabs i = some T) (c0 : 1 ≤ c) (c1 : c ≤ 512) (hr : isW RTS (.str r) = true) (hs : srcR H sov s) (ho : ∀ j, s = .obj j → sh = true ∧ ∃ m, cntS S j m ≠ 0) (hf : ∀ n, s = .file n → S.fls n = true)
    (i0 : 0 ≤ ix) (in_ : s = .non → ix = 0) (i1 : s ≠ .non → ix ≤ 512 - c) (ha : AnyV H av) (hp : placeV (mpd T) c av = .int f) (f0 : 0 ≤ f) (f1 : f ≤ 512 - c) (so : sh = true → s = .non → S.o < 1000)
    (k : ∀ H' τ', Go τ H τ' H' → Sr A H' x wh (mapS S i T f c r sh s ix) τ' → Q (.int f) H') : spMap A [.ref x, .int i, .int c, .str r, .bl sh, sov, .int ix, av] H Q E := by
  have hv : AnyV H sov := by
    cases s with
    | non => cases hs; exact .non
    | file n => obtain ⟨a, rfl, e⟩ := hs; exact .tup e
    | obj j => obtain ⟨a, rfl, e⟩ := hs; exact .tup e
  refine ⟨x, wh, S, τ, .int i, .int c, .str r, .bl sh, sov, .int ix, av, rfl, hS, ⟨.int _, .int _, .str _, .bl _, hv, .int _, ha⟩, livg eT, fun i' T' e1 e2 => ?_⟩
  obtain ⟨rfl, rfl⟩ := only eT e1 e2
  refine ⟨noR c0 c1, fun c' ec _ _ => ?_⟩
  have e1 := V.int.inj ec
  subst e1
  refine ⟨fun z => absurd (hr.symm.trans z) (by decide), fun r' er _ => ?_⟩
  have e1 := V.str.inj er
  subst e1
  refine ⟨fun z => (nomatch z), fun sh' es => ?_⟩
  have e1 := V.bl.inj es
  subst e1
  have kk : ∀ s', s' = s → (inR 0 (if s' = .non then 0 else 512 - c) (.int ix) = false → Rz A.c_NoPages "part" (.str "index") H E) ∧ ∀ ix', V.int ix = .int ix' → 0 ≤ ix' → (s' = .non → ix' = 0) → (s' ≠ .non → ix' ≤ 512 - c) →
      (inR 0 (512 - c) (placeV (mpd T') c av) = false → Rz A.c_NoPages "part" (.str "at") H E) ∧ ∀ f', placeV (mpd T') c av = .int f' → 0 ≤ f' → f' ≤ 512 - c →
      (sh = true → s' = .non → S.o < 1000) ∧ ∀ H' τ', Go τ H τ' H' → Sr A H' x wh (mapS S i' T' f' c r sh s' ix') τ' → Q (.int f') H' := by
    rintro s' rfl
    refine ⟨fun z => ?_, fun ix' ei _ _ _ => ?_⟩
    · by_cases c : s' = .non
      · rw [if_pos c, in_ c] at z
        exact absurd z (by decide)
      · rw [if_neg c] at z
        exact noR i0 (i1 c) z
    · have e1 := V.int.inj ei
      subst e1
      rw [hp]
      refine ⟨noR f0 f1, fun f' ef _ _ => ?_⟩
      have e1 := V.int.inj ef
      subst e1
      exact ⟨so, k⟩
  refine ⟨fun e => ?_, fun z => ?_, fun a kd nm ea ht => ?_⟩
  · refine kk _ ?_
    cases s with
    | non => rfl
    | file n => obtain ⟨a, rfl, _⟩ := hs; cases e
    | obj j => obtain ⟨a, rfl, _⟩ := hs; cases e
  · cases s with
    | non => cases hs; exact absurd rfl z.1
    | file n => obtain ⟨a, rfl, e⟩ := hs; exact absurd ⟨a, _, _, rfl, e⟩ z.2
    | obj j => obtain ⟨a, rfl, e⟩ := hs; exact absurd ⟨a, _, _, rfl, e⟩ z.2
  · cases s with
    | non => cases hs; cases ea
    | file n =>
      obtain ⟨a', rfl, e⟩ := hs
      cases ea
      rw [e] at ht
      cases ht
      refine ⟨.str _, .str _, fun z => absurd z (by decide +kernel), fun _ => ⟨fun n' en _ => ?_, fun z => ?_⟩, fun z => absurd z (by decide +kernel)⟩
      · cases en
        exact kk _ rfl
      · have := z n rfl
        rw [hf n rfl] at this
        cases this
    | obj j =>
      obtain ⟨a', rfl, e⟩ := hs
      cases ea
      rw [e] at ht
      cases ht
      refine ⟨.str _, .int _, fun z => absurd z (by decide +kernel), fun z => absurd z (by decide +kernel), fun _ => ⟨fun j' ej _ _ => ?_, fun z => ?_⟩⟩
      · cases ej
        exact kk _ rfl
      · exact absurd ⟨(ho j rfl).1, j, rfl, (ho j rfl).2⟩ z
end
end My
set_option Elab.async false
set_option linter.all false
set_option maxRecDepth 100000
set_option maxHeartbeats 4000000
namespace My
open PySem L2
local macro_rules | `(tactic| walk_at "ds") => `(tactic| dsimp only [tSeq, tIfS, tTest, tB, tAnd, tOr, tNot, tAndV, tOrV, tNotV, tIf, tIsN, tNotN, tOp, tUn, tChain, rI, rI0, rU, tC, tCB, tCons, tNil, tAsg, gName, gSub, tRet, tRetN, tNext, tDrop, tLst, tTup, rIxL, rIxT, rSetL, tVar, tFld, tCall, tDGet, tDIn, tDNotIn, tNever, L2.start, List.map, List.replicate, List.length, List.append, List.cons_append, List.nil_append, List.set, Nat.sub])
local macro_rules | `(tactic| walk_at "hp") => `(tactic| first | assumption | exact upd_same | (refine Eq.trans (upd_ne (by first | assumption | (apply Ne.symm; assumption))) ?_; walk_at "hp"))
local macro_rules | `(tactic| walk_at "sd") => `(tactic| first
  | (show (_ : Int) ≠ 0; omega)
  | (refine (show CDivN _ _ from ⟨?_, ?_⟩) <;> omega)
  | (show CPow _ _; refine ⟨by omega, by omega, by omega⟩)
  | (show CMul _ _; exact Or.inl ⟨by omega, by omega⟩)
  | (show CMul _ _; exact Or.inr ⟨by omega, by omega⟩))
local macro_rules | `(tactic| walk_at "st") => `(tactic| first
  | refine ⟨_, rfl, ?_⟩
  | refine ⟨_, _, rfl, rfl, (by walk_at "sd"), ?_⟩
  | refine ⟨_, _, rfl, rfl, ?_⟩
  | refine ⟨_, _, _, _, rfl, rfl, SqL.of (by walk_at "hp"), rfl, ?_⟩
  | refine ⟨_, _, _, _, rfl, rfl, (by walk_at "hp"), rfl, ?_⟩
  | refine .inl ⟨_, rfl, ?_⟩
  | refine ⟨_, _, _, _, _, rfl, (by walk_at "hp"), (by assumption), (by assumption), rfl, ?_⟩
  | refine ⟨_, _, rfl, .inl (SqL.of (by walk_at "hp")), ?_⟩)
local macro_rules | `(tactic| walk_at "go") => `(tactic| repeat (first | walk_at "st" | (walk_at "ds"; walk_at "st")))
local macro_rules | `(tactic| walk_at "ni") => `(tactic| dsimp (config := { proj := false }) only [tNil, List.cons_append, List.nil_append])
def mpT (T : Tb) (f c : Int) (h : Pg → Pg) : Tb := fun n => if f ≤ n ∧ n < f + c then (T n).map h else T n
def mpS (S : Sys) (i : Int) (T : Tb) (f c : Int) (h : Pg → Pg) : Sys := { S.setTab i (some (mpT T f c h)) with n := S.n + 1 }
def mpCh (T : Tb) (f : Int) (c : Nat) (h : Pg → Pg) : List (Int × Option Pg) := (List.range c).map fun (k : Nat) => (f + (k : Int), (T (f + (k : Int))).map h)
theorem mpCh_succ (T : Tb) (f : Int) (c : Nat) (h : Pg → Pg) : mpCh T f (c + 1) h = mpCh T f c h ++ [(f + (c : Int), (T (f + (c : Int))).map h)] := by
  unfold mpCh
  rw [List.range_succ, List.map_append]
  rfl
theorem mpCh_mem {T : Tb} {f : Int} {c : Nat} {h : Pg → Pg} {q : Int × Option Pg} (m : q ∈ mpCh T f c h) : ∃ k, k < c ∧ q = (f + (k : Int), (T (f + (k : Int))).map h) := by
  obtain ⟨k, hk, rfl⟩ := List.mem_map.mp m
  exact ⟨k, List.mem_range.mp hk, rfl⟩
theorem mpCh_nod (T : Tb) (f : Int) (c : Nat) (h : Pg → Pg) : ((mpCh T f c h).map (·.1)).Nodup := by
  have e : (mpCh T f c h).map (·.1) = (newCh f c fun _ => ⟨"", false, .non, none, ⟨false, false, false⟩⟩).map (·.1) := by
    unfold mpCh newCh
    rw [List.map_map, List.map_map]
    rfl
  rw [e]
  exact newCh_nod _ _ _
theorem mpCh_len (T : Tb) (f : Int) (c : Nat) (h : Pg → Pg) : (mpCh T f c h).length = c := by unfold mpCh; rw [List.length_map, List.length_range]
theorem appT_mp (T : Tb) (f : Int) (c : Nat) (h : Pg → Pg) : appT T (mpCh T f c h) = mpT T f (c : Int) h := by
  funext n
  unfold mpT
  split
  · rename_i b
    refine appT_in (mpCh_nod _ _ _ _) (List.mem_map.mpr ⟨(n - f).toNat, List.mem_range.mpr (by omega), ?_⟩)
    have e : f + (((n - f).toNat : Nat) : Int) = n := by omega
    show (f + (((n - f).toNat : Nat) : Int), (T (f + (((n - f).toNat : Nat) : Int))).map h) = (n, (T n).map h)
    rw [e]
  · rename_i b
    refine appT_out fun q hq e => b ?_
    obtain ⟨k, hk, rfl⟩ := mpCh_mem hq
    simp only at e
    omega
def prtG (r : Str) (g : Pg) : Pg := { g with r := r }
/-- a choice, or what stood -/
def optB : V → Bool → Bool
  | .bl b, _ => b
  | _, d => d
def flF (m s w : V) (f : Fl) : Fl := ⟨optB m f.m, optB s f.s, optB w f.w⟩
def flgG (m s w : V) (g : Pg) : Pg := { g with fl := flF m s w g.fl }
def okF (v : V) : Bool := decide (v = .non) || isB v
theorem okF_opt {v : V} (h : okF v = true) : v = .non ∨ ∃ b, v = .bl b := by
  cases v <;> first | exact .inl rfl | exact .inr ⟨_, rfl⟩ | (cases h; done)
theorem WfP.prt {g : Pg} (h : WfP g) {r : Str} (e : PyData.strOk r = true) : WfP (prtG r g) := ⟨h.sh, h.ob, h.ix, h.no, e, h.okN⟩
theorem WfP.flg {g : Pg} (h : WfP g) (m s w : V) : WfP (flgG m s w g) := ⟨h.sh, h.ob, h.ix, h.no, h.okR, h.okN⟩
/-- what is chosen behind j of the three -/
def flJ (m s w : V) (f : Fl) (j : Nat) : Fl := ⟨if 1 ≤ j then optB m f.m else f.m, if 2 ≤ j then optB s f.s else f.s, if 3 ≤ j then optB w f.w else f.w⟩
abbrev wkv (m s w : V) : List (Key × V) := [(Sum.inr "merge", m), (Sum.inr "stay", s), (Sum.inr "wipe", w)]
abbrev nm3 : List Str := ["merge", "stay", "wipe"]
theorem wkv_at {m s w : V} {j : Nat} {k : Key} {v : V} (h : (wkv m s w)[j]? = some (k, v)) : ∃ n, k = Sum.inr n ∧ n ∈ FLs ∧ (v = m ∨ v = s ∨ v = w) ∧ ∀ f, ∀ u ∈ FLs, flV (flJ m s w f (j + 1)) u = if u = n then optB v (flV (flJ m s w f j) u) else flV (flJ m s w f j) u := by
  match j, h with
  | 0, h =>
    cases h
    refine ⟨"merge", rfl, by decide +kernel, .inl rfl, fun f u hu => ?_⟩
    simp only [List.mem_cons, List.not_mem_nil, or_false] at hu
    rcases hu with rfl | rfl | rfl | rfl
    · rw [flV_lock, flV_lock, if_neg (by decide +kernel)]
    · rw [flV_m, flV_m, if_pos rfl]; rfl
    · rw [flV_s, flV_s, if_neg (by decide +kernel)]; rfl
    · rw [flV_w, flV_w, if_neg (by decide +kernel)]; rfl
  | 1, h =>
    cases h
    refine ⟨"stay", rfl, by decide +kernel, .inr (.inl rfl), fun f u hu => ?_⟩
    simp only [List.mem_cons, List.not_mem_nil, or_false] at hu
    rcases hu with rfl | rfl | rfl | rfl
    · rw [flV_lock, flV_lock, if_neg (by decide +kernel)]
    · rw [flV_m, flV_m, if_neg (by decide +kernel)]; rfl
    · rw [flV_s, flV_s, if_pos rfl]; rfl
    · rw [flV_w, flV_w, if_neg (by decide +kernel)]; rfl
  | 2, h =>
    cases h
    refine ⟨"wipe", rfl, by decide +kernel, .inr (.inr rfl), fun f u hu => ?_⟩
    simp only [List.mem_cons, List.not_mem_nil, or_false] at hu
    rcases hu with rfl | rfl | rfl | rfl
    · rw [flV_lock, flV_lock, if_neg (by decide +kernel)]
    · rw [flV_m, flV_m, if_neg (by decide +kernel)]; rfl
    · rw [flV_s, flV_s, if_neg (by decide +kernel)]; rfl
    · rw [flV_w, flV_w, if_pos rfl]; rfl
  | j + 3, h => simp at h
section
variable {P : Program} {w : World} {K : PySem.W.Frag} {mg : Str → Option Value} {base : Heap} {A : Adr}
theorem ok_with_rights (G : Txt K mg A) : FnOk P w K mg base CX0 3 A.a_with_rights A.fd_with_rights p_with_rights (spWith A fun r s so i f h v => [v, s, so, i, f, h]) := by
  refine G.f_with_rights.ok sc_with_rights (fun vs H Q E h => ?_) (fun cdv A' outer s H vs Q E hr h => ?_)
  · obtain ⟨p, r, s, so, i, f, h, v, rfl, _⟩ := h
    rfl
  · obtain ⟨p, r, s, so, i, f, h, v, rfl, ⟨dx, e⟩, k⟩ := h
    refine ⟨_, (pss_one (ps_ret (pe_make G.mk_Page (ok_Page_init G) (hr.mono (by decide)) rfl G.g_Page G.bi_Page_init .nil pass0 (pa_cons (pv 1) (pa_cons (pe_fld (pv 0) rfl) (pa_cons (pe_fld (pv 0) rfl) (pa_cons (pe_fld (pv 0) rfl) (pa_cons (pe_fld (pv 0) rfl) (pa_cons (pe_fld (pv 0) rfl) (pa_cons (pe_fld (pv 0) rfl) pa_nil)))))))))), ?_⟩
    refine ⟨_, rfl, _, rfl, p, _, _, _, _, rfl, e, G.cl_Page, G.n_Page_shared, rfl, _, rfl, p, _, _, _, _, rfl, e, G.cl_Page, G.n_Page_source, rfl,
      _, rfl, p, _, _, _, _, rfl, e, G.cl_Page, G.n_Page_index, rfl, _, rfl, p, _, _, _, _, rfl, e, G.cl_Page, G.n_Page_flags, rfl, _, rfl, p, _, _, _, _, rfl, e, G.cl_Page, G.n_Page_held, rfl, _, rfl, p, _, _, _, _, rfl, e, G.cl_Page, G.n_Page_stamp, rfl, ?_⟩
    intro y dy hy hdy ne
    exact ⟨y, dy, _, _, _, _, _, _, _, rfl, upd_same, fun H5 b5 pg => ⟨rfl, k y H5 (same_made hy hdy b5) ⟨_, _, _, _, _, _, rfl, pg⟩⟩⟩
def spFlW (A : Adr) : Sp := fun vs H Q _ => ∃ (fa wd : Addr) (f : Fl) (m s w : V), vs = [.ref fa, .ref wd] ∧ H fa = some (.tup ((flL f).map V.str)) ∧ H wd = some (.dK (wkv m s w)) ∧ okF m = true ∧ okF s = true ∧ okF w = true ∧
  ∀ q H', Same H H' → H q = none → H' q = some (.tup ((flL (flF m s w f)).map V.str)) → Q (.ref q) H'
theorem ok_flags_with (G : Txt K mg A) : FnOk P w K mg base CX0 2 A.a_flags_with A.fd_flags_with p_flags_with (spFlW A) := by
  refine G.f_flags_with.ok sc_flags_with (fun vs H Q E h => ?_) (fun cdv A' outer s H vs Q E hr h => ?_)
  · obtain ⟨fa, wd, f, m, s, w, rfl, _⟩ := h
    rfl
  · obtain ⟨fa, wd, f, m, s2, w2, rfl, hf, hw, om, os, ow, k⟩ := h
    refine ⟨_, (pss_cons (ps_set (i := 2) sc_flags_with.nd rfl (Or.inr rfl) (pe_dc (own := [("name", 3)]) (g := gName 3) (tt := tYes) rfl sc_flags_with.nd (pi_tup (pe_glob (v := .ref A.o_FLAGS) rfl G.g_FLAGS rfl)) (blkOk_by (own := [("name", 3)]) (N := n_flags_with) (sc := defScope s_flags_with) (by decide +kernel)) (fun _ _ _ _ _ => pg_name (i := 3) sc_flags_with.nd rfl (Or.inl rfl)) (fun _ _ _ _ _ => pts_nil) (fun _ _ _ _ _ => (pv 3)) (fun _ _ _ _ _ => (pe_cmpR (r := rIn K false) op_in_seq (pv 3) (pv 0) (by rfl)))))
  (pss_cons (ps_lock (ps_for PassesOwn.never rfl (pi_items (pv 1)) (pg_tup rfl (pgs_cons (pg_name (i := 3) sc_flags_with.nd rfl (Or.inl rfl)) (pgs_cons (pg_name (i := 4) sc_flags_with.nd rfl (Or.inl rfl)) pgs_nil))) (pss_one (ps_if (pt_cmpR op_notN (pv 4) pe_non (nomark _)) (pss_one (ps_dput (hu_of hr) (pv 2) (pv 3) (pv 4) rfl)) pss_nil))))
  (pss_one (ps_ret (pe_callTy call_tuple_of (by rfl) G.b_tuple (by decide +kernel) (pa_cons (pe_lc (own := [("name", 3)]) (g := gName 3) (tt := (tTru K (tDGet (tVar 2) (tVar 3)))) rfl sc_flags_with.nd (pi_tup (pe_glob (v := .ref A.o_FLAGS) rfl G.g_FLAGS rfl)) (blkOk_by (own := [("name", 3)]) (N := n_flags_with) (sc := defScope s_flags_with) (by decide +kernel)) (fun _ _ _ _ _ => pg_name (i := 3) sc_flags_with.nd rfl (Or.inl rfl)) (fun _ _ _ _ _ => pts_one (pt_truth (pe_dget (hu_of hr) (pv 2) (pv 3) (fun _ _ => rfl)) (by intro _; rfl))) (fun _ _ _ _ _ => (pv 3))) pa_nil)))))), ?_⟩
    refine ⟨_, rfl, ⟨_, flags_tup G⟩, fun D hD => ?_⟩
    have nDw : wd ≠ D := ne_of_none hw hD
    refine dc_walk (walk_tup (K := K) (a := A.o_FLAGS) (xs := FLs.map V.str)) (fun j Z => Same H Z ∧ ∃ ls, Z D = some (.dK ls) ∧ ls.length ≤ j ∧ ∀ n ∈ FLs.take j, valV ls (Sum.inr n) = some (.bl (flV f n)))
      ⟨Same.new hD, [], upd_same, Nat.zero_le _, fun n h => (nomatch h)⟩ (fun j Z _ _ => flags_tup G) ?_ ?_
    · rintro j y Z0 Z hj ⟨sz, ls, z1, z2, z3⟩ ⟨rfl, hy⟩
      obtain ⟨n, hn, rfl⟩ : ∃ n, FLs[j]? = some n ∧ V.str n = y := by
        rw [List.getElem?_map] at hy
        cases e : FLs[j]? with
        | none => rw [e] at hy; cases hy
        | some n => rw [e] at hy; exact ⟨n, rfl, Option.some.inj hy⟩
      have hm : n ∈ FLs := List.mem_of_getElem? hn
      refine ⟨rfl, ?_⟩
      dsimp only [tYes]
      have j4 : j < 4 := hj
      refine iteT ⟨_, rfl, _, rfl, _, rfl, fa, _, rfl, .inr (SqT.of (sz _ _ hf)), rfl, flags_flat _, ls, Sum.inr n, rfl, z1, Nat.lt_of_le_of_lt (by omega : ls.length ≤ 10000) (by decide), fun b o ho => ?_, _, upd_same, ?_, fun u hu => ?_⟩
      · rw [upd_ne (ne_of_none ho hD)]
        exact sz _ _ ho
      · have := length_putK ls (Sum.inr n : Key) (V.bl (inV (.str n) ((flL f).map V.str)))
        show (putK ls (Sum.inr n : Key) (V.bl (inV (.str n) ((flL f).map V.str)))).length ≤ j + 1
        omega
      · show valV (putK ls (Sum.inr n : Key) (V.bl (inV (.str n) ((flL f).map V.str)))) (Sum.inr u) = _
        rw [valV_put, inV_fl f n hm]
        rw [take_succ hn] at hu
        by_cases e : u = n
        · rw [if_pos (by rw [e]), e]
        · rw [if_neg fun z => e (Sum.inr.inj z)]
          rcases List.mem_append.mp hu with h | h
          · exact z3 u h
          · exact absurd (List.mem_singleton.mp h) e
    · rintro Z ⟨sz, ls, z1, z2, z3⟩
      have z4 : ∀ n ∈ FLs, valV ls (Sum.inr n) = some (.bl (flV f n)) := fun n hn => z3 n (by rw [show FLs.take (FLs.map V.str).length = FLs from rfl]; exact hn)
      have hw1 := sz _ _ hw
      have hfa1 := sz _ _ hf
      -- what is wanted
      refine ⟨wd, _, hw1, trivial, fun od => ?_⟩
      have l4 : ls.length ≤ 4 := z2
      refine ⟨_, rfl, wd, od, wkv m s2 w2, rfl, upd_same, for_it walk_items (fun j σ Y => (∃ c3 c4, σ = [some (.ref fa), some (.ref wd), some (.ref D), c3, c4]) ∧ Y wd = some (.frz od (.dK (wkv m s2 w2))) ∧ (∀ b o, b ≠ wd → H b = some o → Y b = some o) ∧ ∃ ls, Y D = some (.dK ls) ∧ ls.length ≤ 4 + j ∧ ∀ n ∈ FLs, valV ls (Sum.inr n) = some (.bl (flV (flJ m s2 w2 f j) n)))
        ⟨⟨_, _, rfl⟩, upd_same, fun b o nb e => by rw [upd_ne nb]; exact sz _ _ e, ls, by rw [upd_ne (Ne.symm nDw)]; exact z1, l4, z4⟩ (fun j σ Y _ y => y.2.1) ?_ ?_⟩
      · rintro j y σ Y1 Y2 hj ⟨⟨c3, c4, rfl⟩, yw, ys, ls2, y1, y2, y3⟩ ⟨T0, k0, v0, rfl, hT0, rfl, hk0, hv0⟩
        obtain ⟨⟨key, v⟩, hkv⟩ : ∃ q, (wkv m s2 w2)[j]? = some q := ⟨(wkv m s2 w2)[j], List.getElem?_eq_getElem hj⟩
        have hk1 : some (kV key) = some k0 := by have h := hk0; simp only [hkv] at h; exact h
        have hv1 : some v = some v0 := by have h := hv0; simp only [hkv] at h; exact h
        have hk2 := Option.some.inj hk1
        have hv2 := Option.some.inj hv1
        subst hk2 hv2
        obtain ⟨n, rfl, hn, hmsw, hfl⟩ := wkv_at hkv
        have s0 := Same.new (o := .tup [kV (Sum.inr n), v]) hT0
        have okv : okF v = true := by rcases hmsw with rfl | rfl | rfl <;> assumption
        have j3 : j < 3 := hj
        refine ⟨T0, _, rfl, SqT.of upd_same, rfl, _, _, rfl, _, _, rfl, rfl, ?_⟩
        refine ⟨_, rfl, rfl, _, rfl, ?_⟩
        rcases okF_opt okv with rfl | ⟨b, rfl⟩
        · rw [decide_eq_true rfl]
          refine iteF ⟨⟨_, _, rfl⟩, s0 _ _ yw, fun b o nb e => s0 _ _ (ys b o nb e), ls2, s0 _ _ y1, by omega, fun u hu => ?_⟩
          rw [y3 u hu, hfl f u hu]
          congr 2
          split
          · rename_i e; rw [e]; rfl
          · rfl
        · rw [decide_eq_false (by simp)]
          refine iteT ⟨_, rfl, _, rfl, _, rfl, D, _, rfl, DPut.k (k := Sum.inr n) (s0 _ _ y1) (Nat.lt_of_le_of_lt (by omega : ls2.length ≤ 10000) (by decide)), ⟨_, _, rfl⟩, ?_, fun b' o nb e => ?_, _, upd_same, ?_, fun u hu => ?_⟩
          · rw [upd_ne nDw]
            exact s0 _ _ yw
          · rw [upd_ne (ne_of_none e hD)]
            exact s0 _ _ (ys _ _ nb e)
          · have := length_putK ls2 (Sum.inr n : Key) (V.bl b)
            omega
          · rw [valV_put, hfl f u hu]
            by_cases e : u = n
            · rw [if_pos (by rw [e]), if_pos e]; rfl
            · rw [if_neg fun z => e (Sum.inr.inj z), if_neg e]
              exact y3 u hu
      · rintro σ Y ⟨⟨c3, c4, rfl⟩, yw, ys, ls2, y1, y2, y3⟩
        refine ⟨yw, ?_⟩
        have sY : Same H (upd Y wd (.dK (wkv m s2 w2))) := fun b o e => by
          by_cases eb : b = wd
          · rw [eb, upd_same, ← hw, ← eb, e]
          · rw [upd_ne eb]
            exact ys _ _ eb e
        have y1' : (upd Y wd (.dK (wkv m s2 w2))) D = some (.dK ls2) := by rw [upd_ne (Ne.symm nDw)]; exact y1
        generalize upd Y wd (.dK (wkv m s2 w2)) = Y' at *
        clear y1 ys yw hw1 hfa1 z1 z3 z4 sz
        refine ⟨_, rfl, ⟨_, flags_tup G⟩, fun R hR => ?_⟩
        refine lc_it (walk_tup (K := K) (a := A.o_FLAGS) (xs := FLs.map V.str)) (fun j X => Same Y' X ∧ X R = some (.lst (((FLs.take j).filter (flV (flF m s2 w2 f))).map V.str)))
          ⟨Same.new hR, upd_same⟩ (fun j X _ _ => flags_tup G) ?_ ?_
        · rintro j y X0 X hj ⟨sx, x1⟩ ⟨rfl, hy⟩
          obtain ⟨n, hn, rfl⟩ : ∃ n, FLs[j]? = some n ∧ V.str n = y := by
            rw [List.getElem?_map] at hy
            cases e : FLs[j]? with
            | none => rw [e] at hy; cases hy
            | some n => rw [e] at hy; exact ⟨n, rfl, Option.some.inj hy⟩
          have hm : n ∈ FLs := List.mem_of_getElem? hn
          have tk := take_succ hn
          have cl := y3 n hm
          refine ⟨rfl, ?_⟩
          refine ⟨_, rfl, _, rfl, D, .bl _, rfl, (by rw [← cl]; exact DGet.k (k := Sum.inr n) (sx _ _ y1')), _, rfl, ?_⟩
          have ej : flV (flJ m s2 w2 f (wkv m s2 w2).length) n = flV (flF m s2 w2 f) n := rfl
          rw [ej]
          have e3 : (FLs.take (j + 1)).filter (flV (flF m s2 w2 f)) = (FLs.take j).filter (flV (flF m s2 w2 f)) ++ if flV (flF m s2 w2 f) n = true then [n] else [] := by
            rw [tk, List.filter_append]
            congr 1
            rw [List.filter_cons]
            split <;> rfl
          refine iteB (fun e => ?_) (fun e => ?_)
          · rw [if_pos e] at e3
            have lf := List.length_filter_le (flV (flF m s2 w2 f)) (FLs.take j)
            have lt := List.length_take_le j FLs
            have j4 : j < 4 := hj
            refine ⟨_, rfl, _, x1, ?_, fun b o ho => ?_, ?_⟩
            · rw [List.length_map]
              exact Nat.lt_of_le_of_lt (by omega : _ ≤ 10000) (by decide)
            · rw [upd_ne (ne_of_none ho hR)]
              exact sx _ _ ho
            · rw [upd_same, e3, List.map_append]
              rfl
          · rw [if_neg (by rw [e]; exact Bool.false_ne_true), List.append_nil] at e3
            exact ⟨sx, by rw [e3]; exact x1⟩
        · rintro X ⟨sx, x1⟩
          rw [show FLs.take (FLs.map V.str).length = FLs from rfl, FLs_fl] at x1
          refine ⟨R, _, rfl, .inl ⟨SqL.of x1, fun t ht => ?_⟩⟩
          have st := Same.new (o := .tup ((flL (flF m s2 w2 f)).map V.str)) ht
          exact k t _ (sY.trans (sx.trans st)) (Same.free (sY.trans sx) ht) upd_same
end
end My
set_option Elab.async false
set_option linter.all false
set_option maxRecDepth 100000
set_option maxHeartbeats 4000000
namespace My
open PySem L2
local macro_rules | `(tactic| walk_at "ds") => `(tactic| dsimp only [tSeq, tIfS, tTest, tB, tAnd, tOr, tNot, tAndV, tOrV, tNotV, tIf, tIsN, tNotN, tOp, tUn, tChain, rI, rI0, rU, tC, tCB, tCons, tNil, tAsg, gName, gSub, tRet, tRetN, tNext, tDrop, tLst, tTup, rIxL, rIxT, rSetL, tVar, tFld, tCall, tDGet, tDIn, tDNotIn, tNever, L2.start, List.map, List.replicate, List.length, List.append, List.cons_append, List.nil_append, List.set, Nat.sub])
local macro_rules | `(tactic| walk_at "hp") => `(tactic| first | assumption | exact upd_same | (refine Eq.trans (upd_ne (by first | assumption | (apply Ne.symm; assumption))) ?_; walk_at "hp"))
local macro_rules | `(tactic| walk_at "sd") => `(tactic| first
  | (show (_ : Int) ≠ 0; omega)
  | (refine (show CDivN _ _ from ⟨?_, ?_⟩) <;> omega)
  | (show CPow _ _; refine ⟨by omega, by omega, by omega⟩)
  | (show CMul _ _; exact Or.inl ⟨by omega, by omega⟩)
  | (show CMul _ _; exact Or.inr ⟨by omega, by omega⟩))
local macro_rules | `(tactic| walk_at "st") => `(tactic| first
  | refine ⟨_, rfl, ?_⟩
  | refine ⟨_, _, rfl, rfl, (by walk_at "sd"), ?_⟩
  | refine ⟨_, _, rfl, rfl, ?_⟩
  | refine ⟨_, _, _, _, rfl, rfl, SqL.of (by walk_at "hp"), rfl, ?_⟩
  | refine ⟨_, _, _, _, rfl, rfl, (by walk_at "hp"), rfl, ?_⟩
  | refine .inl ⟨_, rfl, ?_⟩
  | refine ⟨_, _, _, _, _, rfl, (by walk_at "hp"), (by assumption), (by assumption), rfl, ?_⟩
  | refine ⟨_, _, rfl, .inl (SqL.of (by walk_at "hp")), ?_⟩)
local macro_rules | `(tactic| walk_at "go") => `(tactic| repeat (first | walk_at "st" | (walk_at "ds"; walk_at "st")))
local macro_rules | `(tactic| walk_at "ni") => `(tactic| dsimp (config := { proj := false }) only [tNil, List.cons_append, List.nil_append])
section
variable {P : Program} {w : World} {K : PySem.W.Frag} {mg : Str → Option Value} {base : Heap} {A : Adr}
theorem inV_lock (f : Fl) : inV (.str "lock") ((flL f).map V.str) = false := (inV_fl f "lock" (by decide +kernel)).trans (flV_lock f)
def spUnl (A : Adr) : Sp := fun vs H Q _ => ∃ (d q : Addr) (kvs : List (Key × V)) (f c : Int), vs = [.ref d, .ref q] ∧ H d = some (.dK kvs) ∧ H q = some (.lst (rgV f (f + c))) ∧
  (∀ n, f ≤ n → n < f + c → ∃ p g, valV kvs (Sum.inl n) = some (.ref p) ∧ PgR A.c_Page H p g) ∧ Q .non H
theorem ok_require_unlocked (G : Txt K mg A) : FnOk P w K mg base (L2.CX P w) 3 A.a_require_unlocked A.fd_require_unlocked p_require_unlocked (spUnl A) := by
  refine G.f_require_unlocked.okX sc_require_unlocked (fun vs H Q E h => ?_) (fun cdv A' outer s H vs Q E hr h => ?_)
  · obtain ⟨d, q, kvs, f, c, rfl, _⟩ := h
    rfl
  · obtain ⟨d, q, kvs, f, c, rfl, hd, hq, hp, k⟩ := h
    refine ⟨_, (pss_one (ps_for (passes_of rfl) rfl (pi_list (pv 1)) (pg_name (i := 2) sc_require_unlocked.nd rfl (Or.inl rfl)) (pss_one (ps_if (pt_cmpR (r := rIn K false) op_in_seq pe_str (pe_fld (pe_dget (hu_of hr) (pv 0) (pv 2) (fun _ _ => rfl)) rfl) (by rfl)) (pss_one (ps_raise rfl (takes_of rfl rfl rfl rfl) (pmk_oex G.x_NoLock G.xi_NoLock G.xt_NoLock (ok_NoLock_init G) (hr.mono (by decide)) G.bi_NoLock_init .nil pass0 rfl G.g_NoLock (pa_cons (pv 2) pa_nil)))) pss_nil)))), ?_⟩
    refine ⟨_, rfl, q, rfl, ⟨_, SqL.of hq⟩, for_list (K := K) (a := q) (xs := rgV f (f + c)) (fun j σ Z => Z = H ∧ (∃ c2, σ = [some (.ref d), some (.ref q), c2]))
      ⟨rfl, ⟨_, rfl⟩⟩ (fun j σ Z _ z => by rw [z.1]; exact SqL.of hq) ?_ ?_⟩
    · rintro j y σ Z hy ⟨rfl, ⟨c2, rfl⟩⟩
      have hj : j < (rgV f (f + c)).length := (List.getElem?_eq_some_iff.mp hy).1
      have ey := rg_at hj hy
      subst ey
      rw [rg_len] at hj
      obtain ⟨p, g, hv, dx, sv, fa, e1, e2, e3⟩ := hp (f + (j : Int)) (by omega) (by omega)
      refine ⟨_, rfl, _, rfl, d, .ref p, rfl, (by rw [← hv]; exact DGet.k (k := Sum.inl (f + (j : Nat))) hd), p, _, _, _, _, rfl, e1, G.cl_Page, G.n_Page_flags, rfl, fa, _, rfl, .inr (SqT.of e3), rfl, flags_flat _, _, rfl, ?_⟩
      rw [if_neg Bool.false_ne_true, inV_lock]
      exact iteF ⟨rfl, ⟨_, rfl⟩⟩
    · rintro σ Z ⟨rfl, ⟨c2, rfl⟩⟩
      exact k
def spProt (A : Adr) : Sp := fun vs H Q E => ∃ (x : Addr) (wh : Wh) (S : Sys) (τ : Tm) (who fv cv rv : V), vs = [.ref x, who, fv, cv, rv] ∧ Sr A H x wh S τ ∧ (AnyV H who ∧ AnyV H fv ∧ AnyV H cv ∧ AnyV H rv) ∧
  ((∀ i, who = .int i → S.tabs i = none) → Rz A.c_NoProcess "process" who H E) ∧ ∀ i T, who = .int i → S.tabs i = some T →
  (inR 0 511 fv = false → Rz A.c_NoPages "part" (.str "first") H E) ∧ ∀ f, fv = .int f → 0 ≤ f → f ≤ 511 →
  (inR 1 (512 - f) cv = false → Rz A.c_NoPages "part" (.str "count") H E) ∧ ∀ c, cv = .int c → 1 ≤ c → c ≤ 512 - f →
  (isW RTS rv = false → Rz A.c_NoPages "part" (.str "rights") H E) ∧ ∀ r, rv = .str r → isW RTS (.str r) = true →
  (∀ n, f ≤ n → n < f + c → mpd T n = false → (∀ j, f ≤ j → j < n → mpd T j = true) → Rz A.c_NotMapped "page" (.int n) H E) ∧
  ((∀ j, f ≤ j → j < f + c → mpd T j = true) → ∀ H' τ', Go τ H τ' H' → Sr A H' x wh (mpS S i T f c (prtG r)) τ' → Q .non H')
theorem ok_protect (G : Txt K mg A) : FnOk P w K mg base (L2.CX P w) 5 A.a_protect A.fd_protect p_protect (spProt A) := by
  refine G.f_protect.okX sc_protect (fun vs H Q E h => ?_) (fun cdv A' outer s H vs Q E hr h => ?_)
  · obtain ⟨x, wh, S, τ, who, fv, cv, rv, rfl, _⟩ := h
    rfl
  · obtain ⟨x, wh, S, τ, who, fv, cv, rv, rfl, hS, ⟨h1, h2, h3, h4⟩, k1, k2⟩ := h
    refine ⟨_, (pss_cons (ps_set (i := 5) sc_protect.nd rfl (Or.inr rfl) (pe_call (ok_table_of G) (hr.mono (by decide)) rfl G.g_table_of G.k_table_of G.bi_table_of .nil (passes_call (takes_of rfl rfl rfl rfl) (fun _ _ _ _ z => z)) (pa_cons (pv 0) (pa_cons (pv 1) pa_nil))))
  (pss_cons (ps_set (i := 6) sc_protect.nd rfl (Or.inl rfl) (pe_call (ok_numbers_of G) (hr.mono (by decide)) rfl G.g_numbers_of G.k_numbers_of G.bi_numbers_of .nil (passes_call (takes_of rfl rfl rfl rfl) (fun _ _ _ _ z => z)) (pa_cons (pv 2) (pa_cons (pv 3) pa_nil))))
  (pss_cons (ps_expr (pe_call (ok_require G) (hr.mono (by decide)) rfl G.g_require G.k_require G.bi_require .nil (passes_call (takes_of rfl rfl rfl rfl) (fun _ _ _ _ z => z)) (pa_cons (pe_call (ok_is_word G) (hr.mono (by decide)) rfl G.g_is_word G.k_is_word G.bi_is_word .nil pass0 (pa_cons (pv 4) (pa_cons (pe_glob (v := .ref A.o_RIGHTS) rfl G.g_RIGHTS rfl) pa_nil))) (pa_cons pe_str pa_nil))))
  (pss_cons (ps_expr (pe_call (ok_require_mapped G) (hr.mono (by decide)) rfl G.g_require_mapped G.k_require_mapped G.bi_require_mapped .nil (passes_call (takes_of rfl rfl rfl rfl) (fun _ _ _ _ z => z)) (pa_cons (pv 5) (pa_cons (pv 6) pa_nil))))
  (pss_cons (ps_if (pt_cmpR op_ne (pv 4) pe_str (nomark _)) (pss_one (ps_expr (pe_call (ok_require_unlocked G) (hr.mono (by decide)) rfl G.g_require_unlocked G.k_require_unlocked G.bi_require_unlocked .nil (passes_call (takes_of rfl rfl rfl rfl) (fun _ _ _ _ z => z)) (pa_cons (pv 5) (pa_cons (pv 6) pa_nil))))) pss_nil)
  (pss_cons (ps_setDc (i := 7) (own := [("number", 8)]) (g := gName 8) (tt := tYes) rfl sc_protect.nd rfl rfl (sw_dict rfl rfl rfl (by decide +kernel)) (pi_list (pv 6)) (blkOk_by (own := [("number", 8)]) (N := n_protect) (sc := defScope s_protect) (by decide +kernel)) (fun _ _ _ _ _ => pg_name (i := 8) sc_protect.nd rfl (Or.inl rfl)) (fun _ _ _ _ _ => pts_nil) (fun _ _ _ _ _ => (pv 8)) (fun _ _ _ _ _ => (pe_call (ok_with_rights G) (hr.mono (by decide)) rfl G.g_with_rights G.k_with_rights G.bi_with_rights .nil pass0 (pa_cons (pe_dget (hu_of hr) (pv 5) (pv 8) (fun _ _ => rfl)) (pa_cons (pv 4) pa_nil)))))
  (pss_cons (ps_expr (pe_call (ok_require_charge G) (hr.mono (by decide)) rfl G.g_require_charge G.k_require_charge G.bi_require_charge .nil (passes_call (takes_of rfl rfl rfl rfl) (fun _ _ _ _ z => z)) (pa_cons (pv 0) (pa_cons (pe_disp (pps_cons (pv 1) (pe_star2 (pv 5) (pv 7)) pps_nil) (by rfl) (by rfl) (fun z => by cases z) (by decide)) (pa_cons pe_dnewK pa_nil)))))
  (pss_cons (ps_expr (pe_call (ok_replace_pages G) (hr.mono (by decide)) rfl G.g_replace_pages G.k_replace_pages G.bi_replace_pages .nil pass0 (pa_cons (pv 0) (pa_cons (pv 1) (pa_cons (pv 7) pa_nil)))))
  (pss_one (ps_expr (pe_call (ok_end_step G) (hr.mono (by decide)) rfl G.g_end_step G.k_end_step G.bi_end_step .nil pass0 (pa_cons (pv 0) pa_nil)))))))))))), ?_⟩
    refine ⟨_, rfl, _, rfl, x, wh, S, τ, _, who, rfl, hS, h1, fun i d e hd => ?_, k1⟩
    subst e
    obtain ⟨T, eT, _⟩ := hS.tab hd
    obtain ⟨bi, td, tkvs, tf, hdk, tdi, tpg⟩ := hS.tabE hd eT
    obtain ⟨k3, k4⟩ := k2 i T rfl eT
    refine ⟨_, rfl, _, rfl, fv, cv, rfl, h2, h3, k3, fun f ef f0 f1 => ?_⟩
    obtain ⟨k5, k6⟩ := k4 f ef f0 f1
    refine ⟨k5, fun c ec c0 c1 q H1 eH hq => ?_⟩
    obtain ⟨k7, k8⟩ := k6 c ec c0 c1
    clear k1 k2 k3 k4 k5 k6
    subst ef ec
    have hq1 : H1 q = some (.lst (rgV f (f + c))) := by rw [eH, upd_same]
    have s1 : Same H H1 := by rw [eH]; exact Same.new hq
    have hd1 := s1 _ _ hdk
    have ec' : ((c.toNat : Nat) : Int) = c := Int.toNat_of_nonneg (by omega)
    -- rights
    refine ⟨_, rfl, rv, A.o_RIGHTS, RTS, rfl, h4.same s1, rights_at G, by decide +kernel, isW RTS rv, _, rfl, fun z => ?_, fun z => (k7 z).same s1⟩
    obtain ⟨r, rfl⟩ : ∃ r, rv = V.str r := by
      cases rv <;> first | exact ⟨_, rfl⟩ | (cases z; done)
    obtain ⟨k9, k10⟩ := k8 r rfl z
    have hrt := z
    -- all are mapped
    refine ⟨_, rfl, _, rfl, d, q, tkvs, mpd T, f, c, rfl, hd1, fun k => ?_, hq1, fun am => ?_, fun n n0 n1 n2 n3 => (k9 n n0 n1 n2 n3).same s1⟩
    · rw [tdi.val]
      exact (tpg k).isSome
    have k11 := k10 am
    clear k7 k8 k9 k10
    have page : ∀ n, f ≤ n → n < f + c → ∃ p g, T n = some g ∧ valV tkvs (Sum.inl n) = some (.ref p) ∧ PgR A.c_Page H p g ∧ WfP g := fun n n0 n1 => by
      obtain ⟨g, eg⟩ : ∃ g, T n = some g := Option.isSome_iff_exists.mp (am n n0 n1)
      have rel := tpg n
      rw [eg] at rel
      cases ev : tf n with
      | none => rw [ev] at rel; exact rel.elim
      | some v =>
        rw [ev] at rel
        obtain ⟨_, wf, p, rfl, hp⟩ := rel
        exact ⟨p, g, eg, by rw [tdi.val, ev], hp, wf⟩
    dsimp only
    refine tIfS_ex (b := !decide (V.str r = .str "rw")) (fun σ' H' => σ' = [some (V.ref x), some (.int i), some (.int f), some (.int c), some (.str r), some (.ref d), some (.ref q), none, none] ∧ H' = H1) (fun Q' q' => ⟨_, rfl, rfl, _, rfl, q'⟩) (fun e D' q' => ?_) (fun e D' q' => q' _ _ ⟨rfl, rfl⟩) ?_
    · exact ⟨_, rfl, _, rfl, d, q, tkvs, f, c, rfl, hd1, hq1, fun n n0 n1 => let ⟨p, g, _, hv, hp, _⟩ := page n n0 n1; ⟨p, g, hv, hp.keep (ImmK.same s1)⟩, q' _ _ ⟨rfl, rfl⟩⟩
    rintro _ H1' ⟨rfl, e⟩
    rw [e]
    clear e H1'
    -- the pages anew
    refine ⟨_, rfl, q, rfl, ⟨_, SqL.of hq1⟩, fun D hD => ?_⟩
    refine dc_walk (walk_list (K := K) (a := q) (xs := rgV f (f + c))) (fun j Z => Same H1 Z ∧ ∃ ls, Z D = some (.dK ls) ∧ LsR A.c_Page Z ls (mpCh T f j (prtG r)))
      ⟨Same.new hD, [], upd_same, True.intro⟩ (fun j Z _ z => SqL.of (z.1 _ _ hq1)) ?_ ?_
    · rintro j y Z _ hj ⟨sz, ls, z1, z2⟩ ⟨rfl, hy⟩
      have ey := rg_at hj hy
      subst ey
      rw [rg_len] at hj
      obtain ⟨p, g, eg, hv, hp, wf⟩ := page (f + (j : Int)) (by omega) (by omega)
      refine ⟨rfl, ?_⟩
      dsimp only [tYes]
      have vn : valV ls (Sum.inl (f + (j : Nat))) = none := z2.val_none fun z hz e => by
        obtain ⟨k', hk', rfl⟩ := mpCh_mem hz
        simp only at e
        omega
      have ll := z2.length
      have dl := mpCh_len T f j (prtG r)
      have hpZ := hp.keep (ImmK.same (s1.trans sz))
      obtain ⟨dx, sv, fa, e1, e2, e3⟩ := id hpZ
      refine iteT ⟨_, rfl, _, rfl, _, rfl, d, .ref p, rfl, (by rw [← hv]; exact DGet.k (k := Sum.inl (f + (j : Nat))) (sz _ _ hd1)), _, rfl, p, _, _, _, _, _, _, _, rfl, ⟨dx, e1⟩, fun y2 Z2 s2 pg2 => ?_⟩
      obtain ⟨r', s', so', i', f', h', el, dx3, e4⟩ := pg2
      cases el
      have hp2 : PgR A.c_Page Z2 y2 (prtG r g) := ⟨dx3, sv, fa, e4, e2.keep (ImmK.same s2), s2 _ _ e3⟩
      have z2' := z2.keep (ImmK.same s2)
      have z1' := s2 _ _ z1
      have im : ImmK Z2 (upd Z2 D (.dK (putK ls (Sum.inl (f + (j : Nat))) (.ref y2)))) := ImmK.upd z1' rfl
      refine ⟨ls, Sum.inl (f + (j : Nat)), rfl, z1', Nat.lt_of_le_of_lt (by omega : ls.length ≤ 10000) (by decide), fun b o ho => ?_, _, upd_same, ?_⟩
      · rw [upd_ne (ne_of_none ho hD)]
        exact s2 _ _ (sz _ _ ho)
      · rw [putK_new _ vn] at im ⊢
        rw [mpCh_succ, eg]
        exact LsR.snoc (kv := (Sum.inl (f + (j : Int)), V.ref y2)) (q := (f + (j : Int), some (prtG r g))) rfl (show PgV _ _ (.ref y2) (some (prtG r g)) from ⟨wf.prt (okRts hrt), y2, rfl, hp2.keep im⟩) (z2'.keep im)
    · rintro Z ⟨sz, ls, z1, z2⟩
      rw [rg_len] at z2
      have s2 := s1.trans sz
      have hdz := s2 _ _ hdk
      have tD : τ D = none := hS.fresh (Same.free s1 hD)
      have nD : D ≠ d := (ne_of_none hd1 hD).symm
      have lt : tkvs.length ≤ 512 := tdi.len fun i' hi' => by
        have := (tpg i').low hi'
        omega
      have ll := z2.length
      have dl := mpCh_len T f c.toNat (prtG r)
      refine ⟨_, rfl, fun u0 hu0 => ?_⟩
      have s80 := Same.new (o := .dK []) hu0
      have hd80 := s80 _ _ hdz
      have l60 := s80 _ _ z1
      have hu00 : (upd Z u0 (.dK [])) u0 = some (.dK []) := upd_same
      generalize upd Z u0 (.dK []) = H60 at *
      refine ⟨_, rfl, fun u hu => ?_⟩
      have nd : d ≠ u := ne_of_none hd80 hu
      have nqu : D ≠ u := ne_of_none l60 hu
      refine ⟨_, rfl, d, tkvs, rfl, nd, by rw [upd_ne nd]; exact hd80, upd_same, _, rfl, D, ls, rfl, nqu, by rw [upd_ne nqu, upd_ne nqu]; exact l60, upd_same, Nat.le_trans (by omega : tkvs.length + ls.length ≤ 10000) (by decide), ?_⟩
      rw [upd_upd, upd_upd]
      have s90 := Same.new (o := .dK (mergeK (mergeK [] tkvs) ls)) hu
      refine ⟨s90 _ _ hu00, [(Sum.inl i, V.ref u)], rfl, (by show 1 ≤ 15; decide), fun e he => ?_⟩
      have s9 : Same Z (upd (upd (upd H60 u (.dK (mergeK (mergeK [] tkvs) ls))) u0 (.dK (mergeK [] [(Sum.inl i, V.ref u)]))) e (.dK [])) := fun b o eb => by
        have b0 : b ≠ u0 := ne_of_none eb hu0
        rw [upd_ne (ne_of_none (show (upd (upd H60 u (.dK (mergeK (mergeK [] tkvs) ls))) u0 (.dK (mergeK [] [(Sum.inl i, V.ref u)]))) b = some o by rw [upd_ne b0]; exact s90 _ _ (s80 _ _ eb)) he), upd_ne b0]
        exact s90 _ _ (s80 _ _ eb)
      have s10 := s2.trans s9
      have S10 := hS.same s10
      refine ⟨x, wh, S, τ, _, _, _, rfl, S10, ?_⟩
      refine ⟨_, rfl, _, rfl, _, rfl, x, wh, S, τ, i, D, ls, _, T, rfl, S10, eT, s9 _ _ z1, tD, z2.keep (ImmK.same s9), mpCh_nod _ _ _ _, fun z hz => ?_, fun z hz g eg j ej => ?_, fun H2 τ2 go2 S2 => ?_⟩
      · obtain ⟨k, hk, rfl⟩ := mpCh_mem hz
        simp only
        omega
      · obtain ⟨k, hk, rfl⟩ := mpCh_mem hz
        cases e : T (f + (k : Int)) with
        | none => simp only [e] at eg; cases eg
        | some g0 =>
          simp only [e] at eg
          have eg' : prtG r g0 = g := Option.some.inj eg
          rw [← eg'] at ej
          exact hS.pgOb eT e ej
      · refine ⟨_, rfl, x, wh, _, τ2, rfl, S2, fun H3 τ3 go3 S3 => k11 H3 τ3 ((Go.same s10).trans (go2.trans go3)) ?_⟩
        rw [appT_mp, ec'] at S3
        exact S3
end
end My
set_option Elab.async false
set_option linter.all false
set_option maxRecDepth 100000
set_option maxHeartbeats 4000000
namespace My
open PySem L2
local macro_rules | `(tactic| walk_at "ds") => `(tactic| dsimp only [tSeq, tIfS, tTest, tB, tAnd, tOr, tNot, tAndV, tOrV, tNotV, tIf, tIsN, tNotN, tOp, tUn, tChain, rI, rI0, rU, tC, tCB, tCons, tNil, tAsg, gName, gSub, tRet, tRetN, tNext, tDrop, tLst, tTup, rIxL, rIxT, rSetL, tVar, tFld, tCall, tDGet, tDIn, tDNotIn, tNever, L2.start, List.map, List.replicate, List.length, List.append, List.cons_append, List.nil_append, List.set, Nat.sub])
local macro_rules | `(tactic| walk_at "hp") => `(tactic| first | assumption | exact upd_same | (refine Eq.trans (upd_ne (by first | assumption | (apply Ne.symm; assumption))) ?_; walk_at "hp"))
local macro_rules | `(tactic| walk_at "sd") => `(tactic| first
  | (show (_ : Int) ≠ 0; omega)
  | (refine (show CDivN _ _ from ⟨?_, ?_⟩) <;> omega)
  | (show CPow _ _; refine ⟨by omega, by omega, by omega⟩)
  | (show CMul _ _; exact Or.inl ⟨by omega, by omega⟩)
  | (show CMul _ _; exact Or.inr ⟨by omega, by omega⟩))
local macro_rules | `(tactic| walk_at "st") => `(tactic| first
  | refine ⟨_, rfl, ?_⟩
  | refine ⟨_, _, rfl, rfl, (by walk_at "sd"), ?_⟩
  | refine ⟨_, _, rfl, rfl, ?_⟩
  | refine ⟨_, _, _, _, rfl, rfl, SqL.of (by walk_at "hp"), rfl, ?_⟩
  | refine ⟨_, _, _, _, rfl, rfl, (by walk_at "hp"), rfl, ?_⟩
  | refine .inl ⟨_, rfl, ?_⟩
  | refine ⟨_, _, _, _, _, rfl, (by walk_at "hp"), (by assumption), (by assumption), rfl, ?_⟩
  | refine ⟨_, _, rfl, .inl (SqL.of (by walk_at "hp")), ?_⟩)
local macro_rules | `(tactic| walk_at "go") => `(tactic| repeat (first | walk_at "st" | (walk_at "ds"; walk_at "st")))
local macro_rules | `(tactic| walk_at "ni") => `(tactic| dsimp (config := { proj := false }) only [tNil, List.cons_append, List.nil_append])
section
variable {P : Program} {w : World} {K : PySem.W.Frag} {mg : Str → Option Value} {base : Heap} {A : Adr}
theorem wkv_merge (m s w : V) : mergeK [] (wkv m s w) = wkv m s w := by
  have m1 : ("merge" : Str) ≠ "stay" := by decide +kernel
  have m2 : ("merge" : Str) ≠ "wipe" := by decide +kernel
  have m3 : ("stay" : Str) ≠ "wipe" := by decide +kernel
  have n1 : (Sum.inr ("merge" : Str) : Key) ≠ Sum.inr ("stay" : Str) := fun z => m1 (Sum.inr.inj z)
  have n2 : (Sum.inr ("merge" : Str) : Key) ≠ Sum.inr ("wipe" : Str) := fun z => m2 (Sum.inr.inj z)
  have n3 : (Sum.inr ("stay" : Str) : Key) ≠ Sum.inr ("wipe" : Str) := fun z => m3 (Sum.inr.inj z)
  unfold mergeK
  simp only [List.foldl_cons, List.foldl_nil]
  have e1 : putK ([] : List (Key × V)) (Sum.inr ("merge" : Str)) m = ([(Sum.inr ("merge" : Str), m)] : List (Key × V)) := rfl
  have e2 : putK [((Sum.inr ("merge" : Str) : Key), m)] (Sum.inr ("stay" : Str)) s = ([(Sum.inr ("merge" : Str), m), (Sum.inr ("stay" : Str), s)] : List (Key × V)) := putK_new _ (by rw [valV_neg n1]; rfl)
  have e3 : putK [((Sum.inr ("merge" : Str) : Key), m), (Sum.inr ("stay" : Str), s)] (Sum.inr ("wipe" : Str)) w = wkv m s w := putK_new _ (by rw [valV_neg n2, valV_neg n3]; rfl)
  rw [e1, e2, e3]
/-- the values of the three, by their place -/
theorem wkv_val {m s w : V} {j : Nat} {k : Key} {v : V} (h : (wkv m s w)[j]? = some (k, v)) : (j = 0 ∧ k = Sum.inr ("merge" : Str) ∧ v = m) ∨ (j = 1 ∧ k = Sum.inr ("stay" : Str) ∧ v = s) ∨ (j = 2 ∧ k = Sum.inr ("wipe" : Str) ∧ v = w) := by
  match j, h with
  | 0, h => cases h; exact .inl ⟨rfl, rfl, rfl⟩
  | 1, h => cases h; exact .inr (.inl ⟨rfl, rfl, rfl⟩)
  | 2, h => cases h; exact .inr (.inr ⟨rfl, rfl, rfl⟩)
  | j + 3, h => simp at h
def spFlag (A : Adr) : Sp := fun vs H Q E => ∃ (x : Addr) (wh : Wh) (S : Sys) (τ : Tm) (who fv cv mv sv wv : V), vs = [.ref x, who, fv, cv, mv, sv, wv] ∧ Sr A H x wh S τ ∧ (AnyV H who ∧ AnyV H fv ∧ AnyV H cv ∧ AnyV H mv ∧ AnyV H sv ∧ AnyV H wv) ∧
  ((∀ i, who = .int i → S.tabs i = none) → Rz A.c_NoProcess "process" who H E) ∧ ∀ i T, who = .int i → S.tabs i = some T →
  (inR 0 511 fv = false → Rz A.c_NoPages "part" (.str "first") H E) ∧ ∀ f, fv = .int f → 0 ≤ f → f ≤ 511 →
  (inR 1 (512 - f) cv = false → Rz A.c_NoPages "part" (.str "count") H E) ∧ ∀ c, cv = .int c → 1 ≤ c → c ≤ 512 - f →
  (okF mv = false → Rz A.c_NoPages "part" (.str "merge") H E) ∧ (okF mv = true →
  (okF sv = false → Rz A.c_NoPages "part" (.str "stay") H E) ∧ (okF sv = true →
  (okF wv = false → Rz A.c_NoPages "part" (.str "wipe") H E) ∧ (okF wv = true →
  (∀ n, f ≤ n → n < f + c → mpd T n = false → (∀ j, f ≤ j → j < n → mpd T j = true) → Rz A.c_NotMapped "page" (.int n) H E) ∧
  ((∀ j, f ≤ j → j < f + c → mpd T j = true) → ∀ H' τ', Go τ H τ' H' → Sr A H' x wh (mpS S i T f c (flgG mv sv wv)) τ' → Q .non H'))))
theorem ok_flag (G : Txt K mg A) : FnOk P w K mg base (L2.CX P w) 5 A.a_flag A.fd_flag p_flag (spFlag A) := by
  refine G.f_flag.ok sc_flag (fun vs H Q E h => ?_) (fun cdv A' outer s H vs Q E hr h => ?_)
  · obtain ⟨x, wh, S, τ, who, fv, cv, mv, sv, wv, rfl, _⟩ := h
    rfl
  · obtain ⟨x, wh, S, τ, who, fv, cv, mv, sv, wv, rfl, hS, ⟨h1, h2, h3, h4, h5, h6⟩, k1, k2⟩ := h
    refine ⟨_, (pss_cons (ps_set (i := 7) sc_flag.nd rfl (Or.inl rfl) (pe_call (ok_table_of G) (hr.mono (by decide)) rfl G.g_table_of G.k_table_of G.bi_table_of .nil (passes_call (takes_of rfl rfl rfl rfl) (fun _ _ _ _ z => z)) (pa_cons (pv 0) (pa_cons (pv 1) pa_nil))))
  (pss_cons (ps_set (i := 8) sc_flag.nd rfl (Or.inl rfl) (pe_call (ok_numbers_of G) (hr.mono (by decide)) rfl G.g_numbers_of G.k_numbers_of G.bi_numbers_of .nil (passes_call (takes_of rfl rfl rfl rfl) (fun _ _ _ _ z => z)) (pa_cons (pv 2) (pa_cons (pv 3) pa_nil))))
  (pss_cons (ps_set (i := 9) sc_flag.nd rfl (Or.inl rfl) (pe_disp (pps_cons pe_str (pv 4) (pps_cons pe_str (pv 5) (pps_cons pe_str (pv 6) pps_nil))) (by rfl) (by rfl) (fun z => by cases z) (by decide)))
  (pss_cons (ps_lock (ps_for (passes_of rfl) rfl (pi_items (pv 9)) (pg_tup rfl (pgs_cons (pg_name (i := 10) sc_flag.nd rfl (Or.inl rfl)) (pgs_cons (pg_name (i := 11) sc_flag.nd rfl (Or.inl rfl)) pgs_nil))) (pss_one (ps_expr (pe_call (ok_require G) (hr.mono (by decide)) rfl G.g_require G.k_require G.bi_require .nil (passes_call (takes_of rfl rfl rfl rfl) (fun _ _ _ _ z => z)) (pa_cons (pe_or (pe_cmp (pc_isN (pv 11)) rfl) (pe_one (pe_callB call_isi (by rfl) G.b_isinstance (by decide +kernel) (pa_cons (pv 11) (pa_cons (pe_bltn (v := .ty "bool") (u := .type "bool") (by rfl) G.b_bool (by decide +kernel) rfl) pa_nil))))) (pa_cons (pv 10) pa_nil)))))))
  (pss_cons (ps_expr (pe_call (ok_require_mapped G) (hr.mono (by decide)) rfl G.g_require_mapped G.k_require_mapped G.bi_require_mapped .nil (passes_call (takes_of rfl rfl rfl rfl) (fun _ _ _ _ z => z)) (pa_cons (pv 7) (pa_cons (pv 8) pa_nil))))
  (pss_cons (ps_set (i := 12) sc_flag.nd rfl (Or.inl rfl) pe_dnewK)
  (pss_cons (ps_for (passes_of rfl) rfl (pi_list (pv 8)) (pg_name (i := 13) sc_flag.nd rfl (Or.inl rfl)) (pss_one (ps_dput (hu_of hr) (pv 12) (pv 13) (pe_call (ok_with_flags G) (hr.mono (by decide)) rfl G.g_with_flags G.k_with_flags G.bi_with_flags .nil pass0 (pa_cons (pe_dget (hu_of hr) (pv 7) (pv 13) (fun _ _ => rfl)) (pa_cons (pe_call (ok_flags_with G) (hr.mono (by decide)) rfl G.g_flags_with G.k_flags_with G.bi_flags_with .nil pass0 (pa_cons (pe_fld (pe_dget (hu_of hr) (pv 7) (pv 13) (fun _ _ => rfl)) rfl) (pa_cons (pv 9) pa_nil))) pa_nil))) rfl)))
  (pss_cons (ps_expr (pe_call (ok_replace_pages G) (hr.mono (by decide)) rfl G.g_replace_pages G.k_replace_pages G.bi_replace_pages .nil pass0 (pa_cons (pv 0) (pa_cons (pv 1) (pa_cons (pv 12) pa_nil)))))
  (pss_one (ps_expr (pe_call (ok_end_step G) (hr.mono (by decide)) rfl G.g_end_step G.k_end_step G.bi_end_step .nil pass0 (pa_cons (pv 0) pa_nil)))))))))))), ?_⟩
    refine ⟨_, rfl, _, rfl, x, wh, S, τ, _, who, rfl, hS, h1, fun i d e hd => ?_, k1⟩
    subst e
    obtain ⟨T, eT, _⟩ := hS.tab hd
    obtain ⟨bi, td, tkvs, tf, hdk, tdi, tpg⟩ := hS.tabE hd eT
    obtain ⟨k3, k4⟩ := k2 i T rfl eT
    refine ⟨_, rfl, _, rfl, fv, cv, rfl, h2, h3, k3, fun f ef f0 f1 => ?_⟩
    obtain ⟨k5, k6⟩ := k4 f ef f0 f1
    refine ⟨k5, fun c ec c0 c1 q H1 eH hq => ?_⟩
    have k7 := k6 c ec c0 c1
    clear k1 k2 k3 k4 k5 k6
    subst ef ec
    have hq1 : H1 q = some (.lst (rgV f (f + c))) := by rw [eH, upd_same]
    have s1 : Same H H1 := by rw [eH]; exact Same.new hq
    have hd1 := s1 _ _ hdk
    have ec' : ((c.toNat : Nat) : Int) = c := Int.toNat_of_nonneg (by omega)
    -- wanted
    intro wd hwd
    refine ⟨_, rfl, _, rfl, _, rfl, upd_same, wkv mv sv wv, rfl, (by show 3 ≤ 15; decide), ?_⟩
    rw [upd_upd, wkv_merge]
    have s2 := s1.trans (Same.new (o := .dK (wkv mv sv wv)) hwd)
    have hw2 : (upd H1 wd (.dK (wkv mv sv wv))) wd = some (.dK (wkv mv sv wv)) := upd_same
    have hq2 : (upd H1 wd (.dK (wkv mv sv wv))) q = some (.lst (rgV f (f + c))) := Same.new hwd _ _ hq1
    have hn2 : H wd = none := Same.free s1 hwd
    generalize upd H1 wd (.dK (wkv mv sv wv)) = H2 at *
    clear hwd hq1 hd1 s1 eH hq
    refine ⟨wd, _, hw2, trivial, fun od => ?_⟩
    refine ⟨_, rfl, wd, od, wkv mv sv wv, rfl, upd_same, for_it walk_items (fun j σ Y => (∃ c10 c11, σ = [some (.ref x), some (.int i), some (.int f), some (.int c), some mv, some sv, some wv, some (.ref d), some (.ref q), some (.ref wd), c10, c11, none, none]) ∧ Y wd = some (.frz od (.dK (wkv mv sv wv))) ∧ (∀ b o, b ≠ wd → H2 b = some o → Y b = some o) ∧
        (1 ≤ j → okF mv = true) ∧ (2 ≤ j → okF sv = true) ∧ (3 ≤ j → okF wv = true))
      ⟨⟨_, _, rfl⟩, upd_same, fun b o nb e => by rw [upd_ne nb]; exact e, fun z => absurd z (by decide), fun z => absurd z (by decide), fun z => absurd z (by decide)⟩ (fun j σ Y _ y => y.2.1) ?_ ?_⟩
    · rintro j y σ Y1 Y2 hj ⟨⟨c10, c11, rfl⟩, yw, ys, o1, o2, o3⟩ ⟨T0, k0, v0, rfl, hT0, rfl, hk0, hv0⟩
      obtain ⟨⟨key, v⟩, hkv⟩ : ∃ q, (wkv mv sv wv)[j]? = some q := ⟨(wkv mv sv wv)[j], List.getElem?_eq_getElem hj⟩
      have hk1 : some (kV key) = some k0 := by have h := hk0; simp only [hkv] at h; exact h
      have hv1 : some v = some v0 := by have h := hv0; simp only [hkv] at h; exact h
      have hk2 := Option.some.inj hk1
      have hv2 := Option.some.inj hv1
      subst hk2 hv2
      have s0 := Same.new (o := .tup [kV key, v]) hT0
      have sH : Same H (upd Y1 T0 (.tup [kV key, v])) := fun b o e => s0 _ _ (ys _ _ (ne_of_none e hn2) (s2 _ _ e))
      refine ⟨T0, _, rfl, SqT.of upd_same, rfl, _, _, rfl, _, _, rfl, rfl, ?_⟩
      have av : AnyV H v := by rcases wkv_val hkv with ⟨_, _, rfl⟩ | ⟨_, _, rfl⟩ | ⟨_, _, rfl⟩ <;> assumption
      obtain ⟨ty, q1, _, q3, _⟩ := (av.same sH).ty (K := K)
      refine tOrV_val (b := decide (v = .non)) (c := isB v) (fun Q' q' => ⟨_, rfl, q'⟩) (fun _ Q' q' => ⟨_, rfl, v, .ty "bool", .type ty, .type "bool", isB v, rfl, .ty "bool", q1, q3, q'⟩) ?_
      refine ⟨_, rfl, ?_⟩
      walk_at "ni"
      show spReqr A [.bl (okF v), kV key] _ _ _
      rcases wkv_val hkv with ⟨rfl, rfl, rfl⟩ | ⟨rfl, rfl, rfl⟩ | ⟨rfl, rfl, rfl⟩
      · exact ⟨_, _, rfl, fun e => ⟨⟨_, _, rfl⟩, s0 _ _ yw, fun b o nb e' => s0 _ _ (ys b o nb e'), fun _ => e, fun z => absurd z (by decide), fun z => absurd z (by decide)⟩, fun e => (k7.1 e).same sH⟩
      · exact ⟨_, _, rfl, fun e => ⟨⟨_, _, rfl⟩, s0 _ _ yw, fun b o nb e' => s0 _ _ (ys b o nb e'), fun _ => o1 (by decide), fun _ => e, fun z => absurd z (by decide)⟩, fun e => ((k7.2 (o1 (by decide))).1 e).same sH⟩
      · exact ⟨_, _, rfl, fun e => ⟨⟨_, _, rfl⟩, s0 _ _ yw, fun b o nb e' => s0 _ _ (ys b o nb e'), fun _ => o1 (by decide), fun _ => o2 (by decide), fun _ => e⟩, fun e => (((k7.2 (o1 (by decide))).2 (o2 (by decide))).1 e).same sH⟩
    · rintro σ Y ⟨⟨c10, c11, rfl⟩, yw, ys, o1, o2, o3⟩
      refine ⟨yw, ?_⟩
      have ok1 := o1 (show 1 ≤ 3 by decide)
      have ok2 := o2 (show 2 ≤ 3 by decide)
      have ok3 := o3 (show 3 ≤ 3 by decide)
      obtain ⟨k9, k10⟩ := ((k7.2 ok1).2 ok2).2 ok3
      have sY : Same H2 (upd Y wd (.dK (wkv mv sv wv))) := fun b o e => by
        by_cases eb : b = wd
        · rw [eb, upd_same, ← hw2, ← eb, e]
        · rw [upd_ne eb]
          exact ys _ _ eb e
      generalize upd Y wd (.dK (wkv mv sv wv)) = H3 at *
      have s3 := s2.trans sY
      have hw3 := sY _ _ hw2
      have hq3 := sY _ _ hq2
      have hd3 := s3 _ _ hdk
      clear ys yw o1 o2 o3 sY hw2 hq2 s2 k7
      refine ⟨_, rfl, _, rfl, d, q, tkvs, mpd T, f, c, rfl, hd3, fun k => ?_, hq3, fun am => ?_, fun n n0 n1 n2 n3 => (k9 n n0 n1 n2 n3).same s3⟩
      · rw [tdi.val]
        exact (tpg k).isSome
      have k11 := k10 am
      have page : ∀ n, f ≤ n → n < f + c → ∃ p g, T n = some g ∧ valV tkvs (Sum.inl n) = some (.ref p) ∧ PgR A.c_Page H p g ∧ WfP g := fun n n0 n1 => by
        obtain ⟨g, eg⟩ : ∃ g, T n = some g := Option.isSome_iff_exists.mp (am n n0 n1)
        have rel := tpg n
        rw [eg] at rel
        cases ev : tf n with
        | none => rw [ev] at rel; exact rel.elim
        | some v =>
          rw [ev] at rel
          obtain ⟨_, wf, p, rfl, hp⟩ := rel
          exact ⟨p, g, eg, by rw [tdi.val, ev], hp, wf⟩
      intro D hD
      have sD := Same.new (o := .dK []) hD
      have qD := sD _ _ hq3
      refine ⟨_, rfl, q, rfl, ⟨_, SqL.of qD⟩, for_list (K := K) (a := q) (xs := rgV f (f + c)) (fun j σ Z => (∃ c13, σ = [some (.ref x), some (.int i), some (.int f), some (.int c), some mv, some sv, some wv, some (.ref d), some (.ref q), some (.ref wd), c10, c11, some (.ref D), c13]) ∧ Same H3 Z ∧ ∃ ls, Z D = some (.dK ls) ∧ LsR A.c_Page Z ls (mpCh T f j (flgG mv sv wv)))
        ⟨⟨_, rfl⟩, sD, [], upd_same, True.intro⟩ (fun j σ Z _ z => SqL.of (z.2.1 _ _ hq3)) ?_ ?_⟩
      · rintro j y σ Z hy ⟨⟨c13, rfl⟩, sz, ls, z1, z2⟩
        have hj : j < (rgV f (f + c)).length := (List.getElem?_eq_some_iff.mp hy).1
        have ey := rg_at hj hy
        subst ey
        rw [rg_len] at hj
        obtain ⟨p, g, eg, hv, hp, wf⟩ := page (f + (j : Int)) (by omega) (by omega)
        have vn : valV ls (Sum.inl (f + (j : Nat))) = none := z2.val_none fun z hz e => by
          obtain ⟨k', hk', rfl⟩ := mpCh_mem hz
          simp only at e
          omega
        have ll := z2.length
        have dl := mpCh_len T f j (flgG mv sv wv)
        have hpZ := hp.keep (ImmK.same (s3.trans sz))
        obtain ⟨dx, sv', fa, e1, e2, e3⟩ := id hpZ
        have hv' : ∀ {Z' : Hp}, Same Z Z' → DGet Z' d (.int (f + (j : Int))) (some (.ref p)) := fun s' => by rw [← hv]; exact DGet.k (k := Sum.inl (f + (j : Int))) (s' _ _ (sz _ _ hd3))
        refine ⟨_, rfl, _, rfl, d, .ref p, rfl, hv' (Same.refl _), ?_⟩
        refine ⟨_, rfl, _, rfl, d, .ref p, rfl, hv' (Same.refl _), p, _, _, _, _, rfl, e1, G.cl_Page, G.n_Page_flags, rfl, _, rfl, ?_⟩
        walk_at "ni"
        refine ⟨fa, wd, g.fl, mv, sv, wv, rfl, e3, sz _ _ hw3, ok1, ok2, ok3, fun q2 Z1 sz1 hq2 e4 => ?_⟩
        refine ⟨p, _, _, _, _, _, _, _, rfl, ⟨dx, sz1 _ _ e1⟩, fun y2 Z2 s2 pg2 => ?_⟩
        obtain ⟨r', s', so', i', f', h', el, dx3, e5⟩ := pg2
        cases el
        have sz2 := sz1.trans s2
        have hp2 : PgR A.c_Page Z2 y2 (flgG mv sv wv g) := ⟨dx3, sv', q2, e5, e2.keep (ImmK.same sz2), s2 _ _ e4⟩
        have z2' := z2.keep (ImmK.same sz2)
        have z1' := sz2 _ _ z1
        have im : ImmK Z2 (upd Z2 D (.dK (putK ls (Sum.inl (f + (j : Nat))) (.ref y2)))) := ImmK.upd z1' rfl
        refine ⟨_, rfl, _, rfl, D, _, rfl, DPut.k (k := Sum.inl (f + (j : Nat))) z1' (Nat.lt_of_le_of_lt (by omega : ls.length ≤ 10000) (by decide)), ⟨_, rfl⟩, fun b o ho => ?_, _, upd_same, ?_⟩
        · rw [upd_ne (ne_of_none ho hD)]
          exact sz2 _ _ (sz _ _ ho)
        · rw [putK_new _ vn] at im ⊢
          rw [mpCh_succ, eg]
          exact LsR.snoc (kv := (Sum.inl (f + (j : Int)), V.ref y2)) (q := (f + (j : Int), some (flgG mv sv wv g))) rfl (show PgV _ _ (.ref y2) (some (flgG mv sv wv g)) from ⟨wf.flg mv sv wv, y2, rfl, hp2.keep im⟩) (z2'.keep im)
      · rintro σ Z ⟨⟨c13, rfl⟩, sz, ls, z1, z2⟩
        rw [rg_len] at z2
        have s4 := s3.trans sz
        have tD : τ D = none := hS.fresh (Same.free s3 hD)
        refine ⟨_, rfl, _, rfl, _, rfl, x, wh, S, τ, i, D, ls, _, T, rfl, hS.same s4, eT, z1, tD, z2, mpCh_nod _ _ _ _, fun z hz => ?_, fun z hz g eg j ej => ?_, fun H4 τ2 go2 S2 => ?_⟩
        · obtain ⟨k, hk, rfl⟩ := mpCh_mem hz
          simp only
          omega
        · obtain ⟨k, hk, rfl⟩ := mpCh_mem hz
          cases e : T (f + (k : Int)) with
          | none => simp only [e] at eg; cases eg
          | some g0 =>
            simp only [e] at eg
            have eg' : flgG mv sv wv g0 = g := Option.some.inj eg
            rw [← eg'] at ej
            exact hS.pgOb eT e ej
        · refine ⟨_, rfl, x, wh, _, τ2, rfl, S2, fun H5 τ9 go3 S3 => k11 H5 τ9 ((Go.same s4).trans (go2.trans go3)) ?_⟩
          rw [appT_mp, ec'] at S3
          exact S3
end
end My
set_option Elab.async false
set_option linter.all false
set_option maxRecDepth 100000
set_option maxHeartbeats 4000000
namespace My
open PySem L2
local macro_rules | `(tactic| walk_at "ds") => `(tactic| dsimp only [tSeq, tIfS, tTest, tB, tAnd, tOr, tNot, tAndV, tOrV, tNotV, tIf, tIsN, tNotN, tOp, tUn, tChain, rI, rI0, rU, tC, tCB, tCons, tNil, tAsg, gName, gSub, tRet, tRetN, tNext, tDrop, tLst, tTup, rIxL, rIxT, rSetL, tVar, tFld, tCall, tDGet, tDIn, tDNotIn, tNever, L2.start, List.map, List.replicate, List.length, List.append, List.cons_append, List.nil_append, List.set, Nat.sub])
local macro_rules | `(tactic| walk_at "hp") => `(tactic| first | assumption | exact upd_same | (refine Eq.trans (upd_ne (by first | assumption | (apply Ne.symm; assumption))) ?_; walk_at "hp"))
local macro_rules | `(tactic| walk_at "sd") => `(tactic| first
  | (show (_ : Int) ≠ 0; omega)
  | (refine (show CDivN _ _ from ⟨?_, ?_⟩) <;> omega)
  | (show CPow _ _; refine ⟨by omega, by omega, by omega⟩)
  | (show CMul _ _; exact Or.inl ⟨by omega, by omega⟩)
  | (show CMul _ _; exact Or.inr ⟨by omega, by omega⟩))
local macro_rules | `(tactic| walk_at "st") => `(tactic| first
  | refine ⟨_, rfl, ?_⟩
  | refine ⟨_, _, rfl, rfl, (by walk_at "sd"), ?_⟩
  | refine ⟨_, _, rfl, rfl, ?_⟩
  | refine ⟨_, _, _, _, rfl, rfl, SqL.of (by walk_at "hp"), rfl, ?_⟩
  | refine ⟨_, _, _, _, rfl, rfl, (by walk_at "hp"), rfl, ?_⟩
  | refine .inl ⟨_, rfl, ?_⟩
  | refine ⟨_, _, _, _, _, rfl, (by walk_at "hp"), (by assumption), (by assumption), rfl, ?_⟩
  | refine ⟨_, _, rfl, .inl (SqL.of (by walk_at "hp")), ?_⟩)
local macro_rules | `(tactic| walk_at "go") => `(tactic| repeat (first | walk_at "st" | (walk_at "ds"; walk_at "st")))
local macro_rules | `(tactic| walk_at "ni") => `(tactic| dsimp (config := { proj := false }) only [tNil, List.cons_append, List.nil_append])
section
variable {CS CP CH : Addr} {H H' : Hp} {x : Addr} {w : Wh} {S : Sys} {τ : Tm} {cnt : Int → Int → Nat}
/-- a file more -/
def fileS (S : Sys) (n : Str) : Sys := { S with fls := fun m => decide (m = n) || S.fls m }
theorem SyA.putFile (h : SyA CS CP CH H x w S τ cnt) {kvs : List (Key × V)} (e : H w.fi = some (.dK kvs)) (few : kvs.length < 100) {n : Str} (ok : PyData.strOk n = true) {v : V} : SyA CS CP CH (upd H w.fi (.dK (putK kvs (Sum.inr n) v))) x w (fileS S n) τ cnt := by
  have im : ImmK H (upd H w.fi (.dK (putK kvs (Sum.inr n) v))) := ImmK.upd e rfl
  have at_ : ∀ {b : Addr} {g : Tag}, τ b = some g → g ≠ .files → (upd H w.fi (.dK (putK kvs (Sum.inr n) v))) b = H b := fun t n => upd_ne (ne_tag t h.tf n)
  refine ⟨(at_ h.tx (by simp)).trans h.hx, h.tx, h.tt, h.to, h.tg, h.tf, ?_, ?_, (at_ h.tg (by simp)).trans h.ogs, ?_, h.bp, h.bo, fun b g e' => ?_, h.his.keep (fun b g t c o e => by rw [at_ t (by rcases c with c | c | c <;> rw [c] <;> simp)]; exact e) (fun b g t => t)⟩
  · obtain ⟨kv, f, h1, h2, h3⟩ := h.tabs
    exact ⟨kv, f, (at_ h.tt (by simp)).trans h1, h2, fun i => (h3 i).keep im (fun d td _ => ⟨at_ td (by simp), rfl⟩) (Int.le_refl _)⟩
  · obtain ⟨kv, f, h1, h2, h3⟩ := h.obs
    exact ⟨kv, f, (at_ h.to (by simp)).trans h1, h2, fun i => (h3 i).keep (fun d td _ => ⟨at_ td (by simp), rfl⟩) (Int.le_refl _)⟩
  · obtain ⟨kv, h1, h2, h3, h4⟩ := h.fis
    rw [e] at h1
    cases h1
    refine ⟨_, upd_same, fun m => ?_, Nat.le_trans (length_putK _ _ _) few, fun m hm => ?_⟩
    · rw [valV_put]
      show _ = (decide (m = n) || S.fls m)
      by_cases em : m = n
      · rw [if_pos (by rw [em]), decide_eq_true em]; rfl
      · rw [if_neg fun z => em (Sum.inr.inj z), decide_eq_false em]
        exact h2 m
    · have hm' : (decide (m = n) || S.fls m) = true := hm
      rcases Bool.or_eq_true _ _ ▸ hm' with z | z
      · rw [of_decide_eq_true z]; exact ok
      · exact h4 m z
  · rcases h.own b g e' with z | ⟨o, z1, z2⟩
    · exact .inl z
    · by_cases bx : b = w.fi
      · rw [bx]; exact .inr ⟨_, upd_same, rfl⟩
      · exact .inr ⟨o, by rw [upd_ne bx]; exact z1, z2⟩
end
section
variable {P : Program} {w : World} {K : PySem.W.Frag} {mg : Str → Option Value} {base : Heap} {A : Adr}
def spItem (A : Adr) : Sp := fun vs H Q _ => ∃ (x dx : Addr) (s i c : V), vs = [.ref x, s, i, c] ∧ H x = some (.ins A.c_Item dx []) ∧ ∀ H', But x H H' → Q .non H'
theorem ok_Item_init (G : Txt K mg A) : FnOk P w K mg base CX0 1 A.a_Item_init A.fd_Item_init p_Item_init (spItem A) := by
  refine G.f_Item_init.ok sc_Item_init (fun vs H Q E h => ?_) (fun cdv A' outer s H vs Q E hr h => ?_)
  · obtain ⟨x, dx, s, i, c, rfl, _⟩ := h
    rfl
  · obtain ⟨x, dx, s, i, c, rfl, hx, k⟩ := h
    refine ⟨_, (pss_cons (ps_fld (pv 0) (pv 1) rfl)
  (pss_cons (ps_fld (pv 0) (pv 2) rfl)
  (pss_cons (ps_fld (pv 0) (pv 3) rfl)
  (pss_cons (ps_fld (pv 0) pe_non rfl)
  (pss_cons (ps_fld (pv 0) pe_non rfl)
  (pss_cons (ps_fld (pv 0) pe_int rfl)
  (pss_cons (ps_fld (pv 0) pe_int rfl)
  (pss_cons (ps_fld (pv 0) pe_bl rfl)
  (pss_cons (ps_fld (pv 0) (pv 3) rfl)
  (pss_cons (ps_fld (pv 0) pe_non rfl)
  (pss_cons (ps_fld (pv 0) (pv 3) rfl)
  (pss_one (ps_fld (pv 0) pe_dnewK rfl))))))))))))), ?_⟩
    have v1 : ∀ {j : Nat} {v : V} {H : Hp}, (L2.start n_Item_init [V.ref x, s, i, c])[j]? = some (some v) → ∀ Q : VK, Q v H → tVar j (L2.start n_Item_init [V.ref x, s, i, c]) H Q := fun h Q q => ⟨_, h, q⟩
    refine sf_val (fs := []) (fs' := [("source", s)]) (v1 (j := 1) rfl) G.cl_Item G.n_Item_source rfl hx (by show 0 < 1000; decide) rfl (fun H1 b1 n1 e1 => ?_)
    try dsimp only
    refine sf_val (fs := [("source", s)]) (fs' := [("source", s), ("index", i)]) (v1 (j := 2) rfl) G.cl_Item G.n_Item_index rfl e1 (by show 1 < 1000; decide) rfl (fun H2 b2 n2 e2 => ?_)
    try dsimp only
    refine sf_val (fs := [("source", s), ("index", i)]) (fs' := [("source", s), ("index", i), ("content", c)]) (v1 (j := 3) rfl) G.cl_Item G.n_Item_content rfl e2 (by show 2 < 1000; decide) rfl (fun H3 b3 n3 e3 => ?_)
    try dsimp only
    refine sf_val (fs := [("source", s), ("index", i), ("content", c)]) (fs' := [("source", s), ("index", i), ("content", c), ("origin", .non)]) (fun Q q => q) G.cl_Item G.n_Item_origin rfl e3 (by show 3 < 1000; decide) rfl (fun H4 b4 n4 e4 => ?_)
    try dsimp only
    refine sf_val (fs := [("source", s), ("index", i), ("content", c), ("origin", .non)]) (fs' := [("source", s), ("index", i), ("content", c), ("origin", .non), ("position", .non)]) (fun Q q => q) G.cl_Item G.n_Item_position rfl e4 (by show 4 < 1000; decide) rfl (fun H5 b5 n5 e5 => ?_)
    try dsimp only
    refine sf_val (fs := [("source", s), ("index", i), ("content", c), ("origin", .non), ("position", .non)]) (fs' := [("source", s), ("index", i), ("content", c), ("origin", .non), ("position", .non), ("holders", .int 0)]) (fun Q q => q) G.cl_Item G.n_Item_holders rfl e5 (by show 5 < 1000; decide) rfl (fun H6 b6 n6 e6 => ?_)
    try dsimp only
    refine sf_val (fs := [("source", s), ("index", i), ("content", c), ("origin", .non), ("position", .non), ("holders", .int 0)]) (fs' := [("source", s), ("index", i), ("content", c), ("origin", .non), ("position", .non), ("holders", .int 0), ("locks", .int 0)]) (fun Q q => q) G.cl_Item G.n_Item_locks rfl e6 (by show 6 < 1000; decide) rfl (fun H7 b7 n7 e7 => ?_)
    try dsimp only
    refine sf_val (fs := [("source", s), ("index", i), ("content", c), ("origin", .non), ("position", .non), ("holders", .int 0), ("locks", .int 0)]) (fs' := [("source", s), ("index", i), ("content", c), ("origin", .non), ("position", .non), ("holders", .int 0), ("locks", .int 0), ("dirty", .bl false)]) (fun Q q => q) G.cl_Item G.n_Item_dirty rfl e7 (by show 7 < 1000; decide) rfl (fun H8 b8 n8 e8 => ?_)
    try dsimp only
    refine sf_val (fs := [("source", s), ("index", i), ("content", c), ("origin", .non), ("position", .non), ("holders", .int 0), ("locks", .int 0), ("dirty", .bl false)]) (fs' := [("source", s), ("index", i), ("content", c), ("origin", .non), ("position", .non), ("holders", .int 0), ("locks", .int 0), ("dirty", .bl false), ("on_disk", c)]) (v1 (j := 3) rfl) G.cl_Item G.n_Item_on_disk rfl e8 (by show 8 < 1000; decide) rfl (fun H9 b9 n9 e9 => ?_)
    try dsimp only
    refine sf_val (fs := [("source", s), ("index", i), ("content", c), ("origin", .non), ("position", .non), ("holders", .int 0), ("locks", .int 0), ("dirty", .bl false), ("on_disk", c)]) (fs' := [("source", s), ("index", i), ("content", c), ("origin", .non), ("position", .non), ("holders", .int 0), ("locks", .int 0), ("dirty", .bl false), ("on_disk", c), ("dirty_from", .non)]) (fun Q q => q) G.cl_Item G.n_Item_dirty_from rfl e9 (by show 9 < 1000; decide) rfl (fun H10 b10 n10 e10 => ?_)
    try dsimp only
    refine sf_val (fs := [("source", s), ("index", i), ("content", c), ("origin", .non), ("position", .non), ("holders", .int 0), ("locks", .int 0), ("dirty", .bl false), ("on_disk", c), ("dirty_from", .non)]) (fs' := [("source", s), ("index", i), ("content", c), ("origin", .non), ("position", .non), ("holders", .int 0), ("locks", .int 0), ("dirty", .bl false), ("on_disk", c), ("dirty_from", .non), ("saved", c)]) (v1 (j := 3) rfl) G.cl_Item G.n_Item_saved rfl e10 (by show 10 < 1000; decide) rfl (fun H11 b11 n11 e11 => ?_)
    try dsimp only
    refine sf_dict (fs := [("source", s), ("index", i), ("content", c), ("origin", .non), ("position", .non), ("holders", .int 0), ("locks", .int 0), ("dirty", .bl false), ("on_disk", c), ("dirty_from", .non), ("saved", c)]) (fs' := fun q12 => [("source", s), ("index", i), ("content", c), ("origin", .non), ("position", .non), ("holders", .int 0), ("locks", .int 0), ("dirty", .bl false), ("on_disk", c), ("dirty_from", .non), ("saved", c), ("saved_with", .ref q12)]) G.cl_Item G.n_Item_saved_with rfl e11 (by show 11 < 1000; decide) (fun _ => rfl) (fun q12 H12 z12 b12 d12 e12 => ?_)
    try dsimp only
    exact k H12 (b1.trans (b2.trans (b3.trans (b4.trans (b5.trans (b6.trans (b7.trans (b8.trans (b9.trans (b10.trans (b11.trans (b12))))))))))))
def okNm (n : Str) : Prop := (1 ≤ n.length ∧ n.length ≤ 8) ∧ (∀ c ∈ n.cps.toList, c = 97 ∨ c = 98) ∧ PyData.strOk n = true
def spName : Sp := fun vs H Q _ => ∃ n : Str, vs = [.str n] ∧ okNm n ∧ ∀ H', Same H H' → Q (.bl true) H'
theorem ok_is_name (G : Txt K mg A) : FnOk P w K mg base CX0 1 A.a_is_name A.fd_is_name p_is_name spName := by
  refine G.f_is_name.ok sc_is_name (fun vs H Q E h => ?_) (fun cdv A' outer s H vs Q E hr h => ?_)
  · obtain ⟨n, rfl, _⟩ := h
    rfl
  · obtain ⟨n, rfl, ⟨⟨l0, l1⟩, hc, _⟩, k⟩ := h
    refine ⟨_, (pss_cons (ps_if (PW.pt (pw_or (pt_not (pt_val (pe_callB call_isi (by rfl) G.b_isinstance (by decide +kernel) (pa_cons (pv 0) (pa_cons (pe_bltn (v := .ty "str") (u := .type "str") (by rfl) G.b_str (by decide +kernel) rfl) pa_nil))))) (pw_or1 (pt_not (pt_chain op_le op_le pe_int (pe_callB call_len_str (by rfl) G.b_len (by decide +kernel) (pa_cons (pv 0) pa_nil)) pe_int))))) (pss_one (ps_ret pe_bl)) pss_nil)
  (pss_one (ps_ret (pe_callB (cr_all rfl) (by rfl) G.b_all (by decide +kernel) (pa_cons (pe_lc (own := [("letter", 1)]) (g := gName 1) (tt := tYes) rfl sc_is_name.nd (pi_str (pv 0)) (blkOk_by (own := [("letter", 1)]) (N := n_is_name) (sc := defScope s_is_name) (by decide +kernel)) (fun _ _ _ _ _ => pg_name (i := 1) sc_is_name.nd rfl (Or.inl rfl)) (fun _ _ _ _ _ => pts_nil) (fun _ _ _ _ _ => (pe_chain op_le_str op_le_str pe_str (pv 1) pe_str))) pa_nil))))), ?_⟩
    obtain ⟨ty, q1, _, _, q4, _⟩ := (AnyV.str n : AnyV H (.str n)).ty (K := K)
    refine ⟨_, rfl, .str n, .ty "str", .type ty, .type "str", true, rfl, .ty "str", q1, q4, _, rfl, ?_⟩
    refine iteF ⟨_, rfl, n, rfl, Nat.le_trans l1 (by decide), _, _, rfl, rfl, _, rfl, ?_⟩
    rw [decide_eq_true (by omega)]
    refine iteT ⟨_, _, rfl, rfl, _, rfl, ?_⟩
    rw [decide_eq_true (by omega)]
    refine iteF ?_
    refine ⟨_, rfl, _, rfl, fun D hD => ?_⟩
    refine lc_it walk_str (fun j Z => Same H Z ∧ Z D = some (.lst (List.replicate j (.bl true)))) ⟨Same.new hD, upd_same⟩ (fun _ _ _ _ => True.intro) ?_ ?_
    · rintro j y Z1 Z2 hj ⟨sz, zD⟩ ⟨rfl, cc, hcc, rfl⟩
      have hm : cc = 97 ∨ cc = 98 := hc cc (Array.mem_toList_iff.mpr (Array.mem_of_getElem? hcc))
      refine ⟨rfl, ?_⟩
      dsimp only [tYes]
      have j8 : j < 8 := by
        have h1 : j < n.cps.size := hj
        have h2 : n.length = n.cps.size := rfl
        omega
      refine iteT ⟨_, rfl, _, _, rfl, rfl, _, rfl, ?_⟩
      have e1 : (!decide (([cc] : List _) < (Str.ofString "a").cps.toList)) = true := by
        rcases hm with rfl | rfl <;> decide +kernel
      have e2 : (!decide ((Str.ofString "z").cps.toList < ([cc] : List _))) = true := by
        rcases hm with rfl | rfl <;> decide +kernel
      show (if (!decide (([cc] : List _) < (Str.ofString "a").cps.toList)) = true then _ else _)
      rw [e1]
      refine iteT ⟨_, _, rfl, rfl, ?_⟩
      show ∃ acc, _
      refine ⟨_, zD, ?_, fun b o ho => ?_, ?_⟩
      · rw [List.length_replicate]
        exact Nat.lt_of_le_of_lt (by omega : j ≤ 10000) (by decide)
      · rw [upd_ne (ne_of_none ho hD)]
        exact sz _ _ ho
      · rw [upd_same, List.replicate_succ']
        show some (HO.lst (List.replicate j (V.bl true) ++ [V.bl (!decide ((Str.ofString "z").cps.toList < ([cc] : List _)))])) = _
        rw [e2]
    · rintro Z ⟨sz, zD⟩
      have e3 : ∀ m : Nat, List.replicate m (V.bl true) = (List.replicate m true).map V.bl := fun m => by rw [List.map_replicate]
      rw [e3] at zD
      refine ⟨D, _, rfl, SqL.of zD, ?_⟩
      have e4 : ∀ m : Nat, (List.replicate m true).all id = true := fun m => by rw [List.all_replicate]; simp
      rw [e4]
      exact k Z sz
def spNewF (A : Adr) : Sp := fun vs H Q _ => ∃ (n : Str) (a b : Int), vs = [.str n, .int a, .int b] ∧ 0 ≤ a ∧ a ≤ b ∧ b ≤ 64 ∧ ∀ q xs H', Same H H' → H q = none → H' q = some (.lst xs) → xs.length = (b - a).toNat → Q (.ref q) H'
theorem ok_new_pages_of_file (G : Txt K mg A) : FnOk P w K mg base CX0 3 A.a_new_pages_of_file A.fd_new_pages_of_file p_new_pages_of_file (spNewF A) := by
  refine G.f_new_pages_of_file.ok sc_new_pages_of_file (fun vs H Q E h => ?_) (fun cdv A' outer s H vs Q E hr h => ?_)
  · obtain ⟨n, a, b, rfl, _⟩ := h
    rfl
  · obtain ⟨n, a, b, rfl, a0, ab, b1, k⟩ := h
    refine ⟨_, (pss_one (ps_ret (pe_lc (own := [("index", 3)]) (g := gName 3) (tt := tYes) rfl sc_new_pages_of_file.nd (pi_range2 rfl G.b_range (pa_cons (pv 1) (pa_cons (pv 2) pa_nil))) (blkOk_by (own := [("index", 3)]) (N := n_new_pages_of_file) (sc := defScope s_new_pages_of_file) (by decide +kernel)) (fun _ _ _ _ _ => pg_name (i := 3) sc_new_pages_of_file.nd rfl (Or.inl rfl)) (fun _ _ _ _ _ => pts_nil) (fun _ _ _ _ _ => (pe_make G.mk_Item (ok_Item_init G) (hr.mono (by decide)) rfl G.g_Item G.bi_Item_init .nil pass0 (pa_cons (pe_tup (pa_cons pe_str (pa_cons (pv 0) pa_nil))) (pa_cons (pv 3) (pa_cons (pe_glob (v := .ref A.o_ZEROS) rfl G.g_ZEROS rfl) pa_nil)))))))), ?_⟩
    refine ⟨_, rfl, _, rfl, _, _, rfl, ⟨by omega, by omega, by omega, by omega⟩, fun D hD => ?_⟩
    refine lc_it walk_range (fun j Z => Same H Z ∧ ∃ xs, Z D = some (.lst xs) ∧ xs.length = j) ⟨Same.new hD, [], upd_same, rfl⟩ (fun _ _ _ _ => True.intro) ?_ ?_
    · rintro j y Z1 Z2 hj ⟨sz, xs, zD, lx⟩ ⟨rfl, rfl⟩
      refine ⟨rfl, ?_⟩
      dsimp only [tYes]
      refine iteT ⟨_, rfl, (by show 2 ≤ sizeLine; decide), fun t ht => ⟨_, rfl, ?_⟩⟩
      have st := Same.new (o := .tup [V.str "file", V.str n]) ht
      intro y dy hy hdy ne
      refine ⟨y, dy, _, _, _, rfl, upd_same, fun H5 b5 => ⟨rfl, ?_⟩⟩
      have s6 := same_made hy hdy b5
      have s7 := st.trans s6
      refine ⟨xs, s7 _ _ zD, ?_, fun b o ho => ?_, _, upd_same, ?_⟩
      · exact Nat.lt_of_le_of_lt (by omega : xs.length ≤ 10000) (by decide)
      · rw [upd_ne (ne_of_none ho hD)]
        exact s7 _ _ (sz _ _ ho)
      · rw [List.length_append, lx]; rfl
    · rintro Z ⟨sz, xs, zD, lx⟩
      exact k D xs Z sz hD zD lx
def spEnd2 (A : Adr) : Sp := fun vs H Q _ => ∃ (x : Addr) (wh : Wh) (S : Sys) (τ : Tm), vs = [.ref x] ∧ Sr A H x wh S τ ∧ ∀ H' τ', (∀ o, H wh.fi = some o → H' wh.fi = some o) → Go τ H τ' H' → Sr A H' x wh { S with n := S.n + 1 } τ' → Q .non H'
theorem ok_end_step2 (G : Txt K mg A) : FnOk P w K mg base CX0 3 A.a_end_step A.fd_end_step p_end_step (spEnd2 A) := by
  refine G.f_end_step.ok sc_end_step (fun vs H Q E h => ?_) (fun cdv A' outer s H vs Q E hr h => ?_)
  · obtain ⟨x, wh, S, τ, rfl, _⟩ := h
    rfl
  · obtain ⟨x, wh, S, τ, rfl, hS, k⟩ := h
    refine ⟨_, (pss_cons (ps_expr (pe_call (ok_arrange_locked G) (hr.mono (by decide)) rfl G.g_arrange_locked G.k_arrange_locked G.bi_arrange_locked .nil pass0 (pa_cons (pe_fld (pv 0) rfl) pa_nil)))
  (pss_one (ps_fldaug (pv 0) pe_int in_add))), ?_⟩
    obtain ⟨dh, lk, y, e1, e2, e3⟩ := hS.his.at_
    refine ⟨_, rfl, x, _, _, _, _, rfl, hS.hx, G.cl_System, G.n_System_history, rfl, wh.hi, dh, wh.ro, lk, y, rfl, e1, hS.his.ro, e2, fun H1 l s1 hl0 hl1 => ?_⟩
    have S1 := hS.same s1
    have S2 := S1.putHis (dh' := dh) (lk' := l) (y' := y) (s1 _ _ e1) hl1 (hS.fresh hl0)
    refine ⟨_, rfl, x, _, _, _, _, rfl, S2.hx, G.cl_System, G.n_System_steps_made, rfl, S.n, 1, rfl, rfl, _, _, S2.hx, (by show 18 < 1000; decide), k _ (setTag τ l .lks) (fun o e => ?_) ?_ ?_⟩
    · rw [upd_ne (ne_tag hS.tf hS.tx (by simp)), upd_ne (ne_tag hS.tf hS.his.th (by simp))]
      exact s1 _ _ e
    · have g1 := hS.goHis (dh' := dh) (y' := y) s1 e1 hl0 hl1
      exact g1.trans (Go.upd (by rw [S2.tx]; simp) S2.hx)
    · have e := cntS_tabs (S := S) (S' := { S with n := S.n + 1 }) rfl
      show SyA _ _ _ _ _ _ _ _ (cntS { S with n := S.n + 1 })
      rw [← e]
      exact S2.put (n' := S.n + 1) (o' := S.o) (Int.le_refl _) hS.bo.2
def crS (S : Sys) (n : Str) : Sys := { fileS S n with n := S.n + 1 }
def spCreate (A : Adr) : Sp := fun vs H Q _ => ∃ (x : Addr) (wh : Wh) (S : Sys) (τ : Tm) (n : Str) (c : Int) (kvs : List (Key × V)), vs = [.ref x, .str n, .int c] ∧ Sr A H x wh S τ ∧ okNm n ∧ S.fls n = false ∧ 0 ≤ c ∧ c ≤ 64 ∧ H wh.fi = some (.dK kvs) ∧ kvs.length < 50 ∧
  ∀ H' τ' kvs', Go τ H τ' H' → Sr A H' x wh (crS S n) τ' → H' wh.fi = some (.dK kvs') → kvs'.length ≤ kvs.length + 1 → Q .non H'
theorem ok_create (G : Txt K mg A) : FnOk P w K mg base (L2.CX P w) 4 A.a_create A.fd_create p_create (spCreate A) := by
  refine G.f_create.okX sc_create (fun vs H Q E h => ?_) (fun cdv A' outer s H vs Q E hr h => ?_)
  · obtain ⟨x, wh, S, τ, n, c, kvs, rfl, _⟩ := h
    rfl
  · obtain ⟨x, wh, S, τ, n, c, kvs, rfl, hS, ok, hn, c0, c1, hf, few, k⟩ := h
    refine ⟨_, (pss_cons (ps_if (pt_not (pt_val (pe_call (ok_is_name G) (hr.mono (by decide)) rfl G.g_is_name G.k_is_name G.bi_is_name .nil pass0 (pa_cons (pv 1) pa_nil)))) (pss_one (ps_raise rfl (takes_of rfl rfl rfl rfl) (pmk_oex G.x_NoFile G.xi_NoFile G.xt_NoFile (ok_NoFile_init G) (hr.mono (by decide)) G.bi_NoFile_init .nil pass0 rfl G.g_NoFile (pa_cons (pv 1) pa_nil)))) pss_nil)
  (pss_cons (ps_if (pt_cmp (pc_din (hu_of hr) (pv 1) (pe_fld (pv 0) rfl))) (pss_one (ps_raise rfl (takes_of rfl rfl rfl rfl) (pmk_oex G.x_Taken G.xi_Taken G.xt_Taken (ok_Taken_init G) (hr.mono (by decide)) G.bi_Taken_init .nil pass0 rfl G.g_Taken (pa_cons (pv 1) pa_nil)))) pss_nil)
  (pss_cons (ps_expr (pe_call (ok_require G) (hr.mono (by decide)) rfl G.g_require G.k_require G.bi_require .nil (passes_call (takes_of rfl rfl rfl rfl) (fun _ _ _ _ z => z)) (pa_cons (pe_call (ok_is_integer G) (hr.mono (by decide)) rfl G.g_is_integer G.k_is_integer G.bi_is_integer .nil pass0 (pa_cons (pv 2) (pa_cons pe_int (pa_cons (pe_glob (v := .int 64) rfl G.g_FILE_PAGES ⟨_, rfl⟩) pa_nil)))) (pa_cons pe_str pa_nil))))
  (pss_cons (ps_dput (hu_of hr) (pe_fld (pv 0) rfl) (pv 1) (pe_call (ok_new_pages_of_file G) (hr.mono (by decide)) rfl G.g_new_pages_of_file G.k_new_pages_of_file G.bi_new_pages_of_file .nil pass0 (pa_cons (pv 1) (pa_cons pe_int (pa_cons (pv 2) pa_nil)))) rfl)
  (pss_one (ps_expr (pe_call (ok_end_step2 G) (hr.mono (by decide)) rfl G.g_end_step G.k_end_step G.bi_end_step .nil pass0 (pa_cons (pv 0) pa_nil)))))))), ?_⟩
    have cl := G.cl_System
    have nf := G.n_System_files
    refine ⟨_, rfl, n, rfl, ok, fun H1 s1 => ⟨_, rfl, iteF ?_⟩⟩
    have S1 := hS.same s1
    have hf1 := s1 _ _ hf
    refine ⟨_, rfl, _, rfl, x, _, _, _, _, rfl, S1.hx, cl, nf, rfl, wh.fi, _, rfl, DGet.k (k := Sum.inr n) hf1, _, rfl, ?_⟩
    obtain ⟨kv, g1, g2, _, _⟩ := id hS.fis
    rw [hf] at g1
    cases g1
    rw [g2 n, hn]
    refine iteF ⟨_, rfl, .int c, 0, 64, rfl, .int c, inR 0 64 (.int c), _, rfl, fun _ => ?_, noR c0 c1⟩
    refine ⟨_, rfl, _, rfl, n, 0, c, rfl, Int.le_refl _, c0, c1, fun q xs H2 s2 hq hq2 _ => ?_⟩
    have s3 := s1.trans s2
    have S2 := hS.same s3
    have hf2 := s3 _ _ hf
    refine ⟨_, rfl, x, _, _, _, _, rfl, S2.hx, cl, nf, rfl, _, rfl, wh.fi, _, rfl, DPut.k (k := Sum.inr n) hf2 (Nat.lt_of_le_of_lt (by omega : kvs.length ≤ 10000) (by decide)), ?_⟩
    have S3' := S2.putFile hf2 (by omega) (n := n) ok.2.2 (v := .ref q)
    have S3 : Sr A (upd H2 wh.fi (.dK (putK kvs (Sum.inr n) (.ref q)))) x wh (fileS S n) τ := by
      show SyA _ _ _ _ _ _ _ _ (cntS (fileS S n))
      rw [cntS_tabs (S := fileS S n) (S' := S) rfl]
      exact S3'
    refine ⟨_, rfl, x, wh, fileS S n, τ, rfl, S3, fun H3 τ3 fr g3 S4 => ?_⟩
    exact k H3 τ3 (putK kvs (Sum.inr n) (.ref q)) ((Go.same s3).trans ((Go.upd (by rw [hS.tf]; simp) hf2).trans g3)) S4 (fr _ upd_same) (length_putK _ _ _)
end
end My
set_option Elab.async false
set_option linter.all false
set_option maxRecDepth 100000
set_option maxHeartbeats 4000000
namespace My
open PySem L2
local macro_rules | `(tactic| walk_at "ds") => `(tactic| dsimp only [tSeq, tIfS, tTest, tB, tAnd, tOr, tNot, tAndV, tOrV, tNotV, tIf, tIsN, tNotN, tOp, tUn, tChain, rI, rI0, rU, tC, tCB, tCons, tNil, tAsg, gName, gSub, tRet, tRetN, tNext, tDrop, tLst, tTup, rIxL, rIxT, rSetL, tVar, tFld, tCall, tDGet, tDIn, tDNotIn, tNever, L2.start, List.map, List.replicate, List.length, List.append, List.cons_append, List.nil_append, List.set, Nat.sub])
local macro_rules | `(tactic| walk_at "hp") => `(tactic| first | assumption | exact upd_same | (refine Eq.trans (upd_ne (by first | assumption | (apply Ne.symm; assumption))) ?_; walk_at "hp"))
local macro_rules | `(tactic| walk_at "sd") => `(tactic| first
  | (show (_ : Int) ≠ 0; omega)
  | (refine (show CDivN _ _ from ⟨?_, ?_⟩) <;> omega)
  | (show CPow _ _; refine ⟨by omega, by omega, by omega⟩)
  | (show CMul _ _; exact Or.inl ⟨by omega, by omega⟩)
  | (show CMul _ _; exact Or.inr ⟨by omega, by omega⟩))
local macro_rules | `(tactic| walk_at "st") => `(tactic| first
  | refine ⟨_, rfl, ?_⟩
  | refine ⟨_, _, rfl, rfl, (by walk_at "sd"), ?_⟩
  | refine ⟨_, _, rfl, rfl, ?_⟩
  | refine ⟨_, _, _, _, rfl, rfl, SqL.of (by walk_at "hp"), rfl, ?_⟩
  | refine ⟨_, _, _, _, rfl, rfl, (by walk_at "hp"), rfl, ?_⟩
  | refine .inl ⟨_, rfl, ?_⟩
  | refine ⟨_, _, _, _, _, rfl, (by walk_at "hp"), (by assumption), (by assumption), rfl, ?_⟩
  | refine ⟨_, _, rfl, .inl (SqL.of (by walk_at "hp")), ?_⟩)
local macro_rules | `(tactic| walk_at "go") => `(tactic| repeat (first | walk_at "st" | (walk_at "ds"; walk_at "st")))
local macro_rules | `(tactic| walk_at "ni") => `(tactic| dsimp (config := { proj := false }) only [tNil, List.cons_append, List.nil_append])
section
variable {P : Program} {w : World} {K : PySem.W.Frag} {mg : Str → Option Value} {base : Heap} {A : Adr}
theorem SyA.tabKeys {CS CP CH : Addr} {H : Hp} {x : Addr} {w : Wh} {S : Sys} {τ : Tm} {cnt : Int → Int → Nat} (h : SyA CS CP CH H x w S τ cnt) {kvs : List (Key × V)} (e : H w.t = some (.dK kvs)) : ∃ f, DI kvs f ∧ ∀ i, (f i).isSome = (S.tabs i).isSome := by
  obtain ⟨kv, f, h1, h2, h3⟩ := h.tabs
  rw [e] at h1
  cases h1
  refine ⟨f, h2, fun i => ?_⟩
  have z := h3 i
  cases ef : f i with
  | none =>
    rw [ef] at z
    cases et : S.tabs i with
    | none => rfl
    | some T => rw [et] at z; exact z.elim
  | some v =>
    rw [ef] at z
    cases et : S.tabs i with
    | none => rw [et] at z; exact z.elim
    | some T => rfl
/-- processes: the numbers of the living, ascending -/
def spProcs (A : Adr) : Sp := fun vs H Q _ => ∃ (x : Addr) (wh : Wh) (S : Sys) (τ : Tm) (cnt : Int → Int → Nat), vs = [.ref x] ∧ Sa A H x wh S τ cnt ∧
  ∀ (q : Addr) (ys : List Int), H q = none → ys.Pairwise (· < ·) → (∀ i, i ∈ ys ↔ (S.tabs i).isSome = true) → Q (.ref q) (upd H q (.lst (ys.map V.int)))
theorem ok_processes (G : Txt K mg A) : FnOk P w K mg base CX0 1 A.a_processes A.fd_processes p_processes (spProcs A) := by
  refine G.f_processes.ok sc_processes (fun vs H Q E h => ?_) (fun cdv A' outer s H vs Q E hr h => ?_)
  · obtain ⟨x, wh, S, τ, cnt, rfl, _⟩ := h
    rfl
  · obtain ⟨x, wh, S, τ, cnt, rfl, hS, k⟩ := h
    refine ⟨_, (pss_one (ps_ret (pe_callB (call_sortedDL rfl) (by rfl) G.b_sorted (by decide +kernel) (pa_cons (pe_fld (pv 0) rfl) pa_nil)))), ?_⟩
    obtain ⟨kvs, f, ht, di0, _⟩ := id hS.tabs
    obtain ⟨f, di, hf⟩ := hS.tabKeys ht
    refine ⟨_, rfl, x, _, _, _, _, rfl, hS.hx, G.cl_System, G.n_System_tables, rfl, wh.t, kvs, intsOf kvs, rfl, .inl ht, di.keys, fun ys p hp hpw hq => k p ys hq (le_lt hpw (hp.nodup_iff.mpr di.nodI)) fun i => ?_⟩
    rw [hp.mem_iff, di.memI, hf]
end
end My
set_option Elab.async false
set_option linter.all false
set_option maxRecDepth 100000
set_option maxHeartbeats 4000000
namespace My
open PySem L2
local macro_rules | `(tactic| walk_at "ds") => `(tactic| dsimp only [tSeq, tIfS, tTest, tB, tAnd, tOr, tNot, tAndV, tOrV, tNotV, tIf, tIsN, tNotN, tOp, tUn, tChain, rI, rI0, rU, tC, tCB, tCons, tNil, tAsg, gName, gSub, tRet, tRetN, tNext, tDrop, tLst, tTup, rIxL, rIxT, rSetL, tVar, tFld, tCall, tDGet, tDIn, tDNotIn, tNever, L2.start, List.map, List.replicate, List.length, List.append, List.cons_append, List.nil_append, List.set, Nat.sub])
local macro_rules | `(tactic| walk_at "hp") => `(tactic| first | assumption | exact upd_same | (refine Eq.trans (upd_ne (by first | assumption | (apply Ne.symm; assumption))) ?_; walk_at "hp"))
local macro_rules | `(tactic| walk_at "sd") => `(tactic| first
  | (show (_ : Int) ≠ 0; omega)
  | (refine (show CDivN _ _ from ⟨?_, ?_⟩) <;> omega)
  | (show CPow _ _; refine ⟨by omega, by omega, by omega⟩)
  | (show CMul _ _; exact Or.inl ⟨by omega, by omega⟩)
  | (show CMul _ _; exact Or.inr ⟨by omega, by omega⟩))
local macro_rules | `(tactic| walk_at "st") => `(tactic| first
  | refine ⟨_, rfl, ?_⟩
  | refine ⟨_, _, rfl, rfl, (by walk_at "sd"), ?_⟩
  | refine ⟨_, _, rfl, rfl, ?_⟩
  | refine ⟨_, _, _, _, rfl, rfl, SqL.of (by walk_at "hp"), rfl, ?_⟩
  | refine ⟨_, _, _, _, rfl, rfl, (by walk_at "hp"), rfl, ?_⟩
  | refine .inl ⟨_, rfl, ?_⟩
  | refine ⟨_, _, _, _, _, rfl, (by walk_at "hp"), (by assumption), (by assumption), rfl, ?_⟩
  | refine ⟨_, _, rfl, .inl (SqL.of (by walk_at "hp")), ?_⟩)
local macro_rules | `(tactic| walk_at "go") => `(tactic| repeat (first | walk_at "st" | (walk_at "ds"; walk_at "st")))
local macro_rules | `(tactic| walk_at "ni") => `(tactic| dsimp (config := { proj := false }) only [tNil, List.cons_append, List.nil_append])
def spWell : Sp := fun vs H Q _ => ∃ n : Int, vs = [.int n] ∧ ∀ (a : Addr) (H' : Hp), H a = none → Same H H' → WellAt H' a 0 → Q (.ref a) H'
def spDraw : Sp := fun vs H Q _ => ∃ (a : Addr) (m : Int) (B : Nat), vs = [.ref a, .int m] ∧ 0 < m ∧ m < 1000000 ∧ WellAt H a B ∧ B < 1000000000 ∧
  ∀ (d : Int) (H' : Hp), 0 ≤ d → d < m → But a H H' → WellAt H' a (B + 1) → Q (.int d) H'
def spOne (K : PySem.W.Frag) : Sp := fun vs H Q _ => ∃ (a l : Addr) (xs : List V) (B : Nat), vs = [.ref a, .ref l] ∧ H l = some (.lst xs) ∧ l ≠ a ∧ 0 < xs.length ∧ xs.length < 1000 ∧ WellAt H a B ∧ B < 1000000000 ∧
  ∀ (v : V) (H' : Hp), v ∈ xs → But a H H' → WellAt H' a (B + 1) → Q v H'
section
variable {P : Program} {w : World} {K : PySem.W.Frag} {mg : Str → Option Value} {base : Heap} {A : Adr}
theorem ok__law_well (G : Txt K mg A) : FnOk P w K mg base CX0 1 A.a__law_well A.fd__law_well p__law_well spWell := by
  refine G.f__law_well.ok sc__law_well (fun vs H Q E h => ?_) (fun cdv A' outer s H vs Q E hr h => ?_)
  · obtain ⟨n, rfl, _⟩ := h
    rfl
  · obtain ⟨n, rfl, k⟩ := h
    refine ⟨_, (pss_one (ps_ret (pe_lst (pa_cons (pe_op op_mul (pv 0) (pe_callTy call_int1 (by rfl) G.b_int (by decide +kernel) (pa_cons (pe_cmpR op_ge (pv 0) (pe_op op_pow pe_int pe_int) (nomark _)) pa_nil))) (pa_cons (pe_op op_modN (pe_callTy call_int1 (by rfl) G.b_int (by decide +kernel) (pa_cons (pv 0) pa_nil)) pe_int) (pa_cons pe_int pa_nil)))))), ?_⟩
    walk_at "go"
    walk_at "ds"
    refine .inr ⟨_, rfl, n, _, rfl, rfl, Or.inr (by split <;> decide), _, rfl, .inl ⟨_, rfl, _, _, rfl, rfl, by decide, by decide, fun p hp => ?_⟩⟩
    refine k p _ hp (Same.new hp) ⟨_, _, _, upd_same, ?_, (fm (by decide)).1, (fm (by decide)).2, Int.le_refl _, Int.le_refl _, by decide⟩
    by_cases c : (10 : Int) ^ Int.toNat 18 ≤ n
    · rw [decide_eq_true c, if_pos rfl, Int.mul_one]
      exact Int.le_trans (by decide) c
    · rw [decide_eq_false c, if_neg Bool.false_ne_true, Int.mul_zero]
      exact Int.le_refl _
theorem ok__law_draw (G : Txt K mg A) : FnOk P w K mg base CX0 1 A.a__law_draw A.fd__law_draw p__law_draw spDraw := by
  refine G.f__law_draw.ok sc__law_draw (fun vs H Q E h => ?_) (fun cdv A' outer s H vs Q E hr h => ?_)
  · obtain ⟨a, m, B, rfl, _⟩ := h
    rfl
  · obtain ⟨a, m, B, rfl, hm0, hm1, ⟨w0, w1, w2, hw, h0, h1, h1', h2, h2', hB⟩, hB', k⟩ := h
    refine ⟨_, (pss_cons (ps_if (pt_cmpR op_gt (pe_ix ix_list (pv 0) pe_int (fun _ _ => rfl)) pe_int (nomark _)) (pss_cons (ps_set (i := 2) sc__law_draw.nd rfl (Or.inl rfl) (pe_op op_modN (pe_callTy call_int1 (by rfl) G.b_int (by decide +kernel) (pa_cons (pe_ix ix_list (pv 0) pe_int (fun _ _ => rfl)) pa_nil)) (pv 1)))
  (pss_cons (ps_asg (pe_op op_fdivN (pe_ix ix_list (pv 0) pe_int (fun _ _ => rfl)) (pv 1)) (pg_sub (pv 0) pe_int set_list))
  (pss_one (ps_ret (pv 2))))) pss_nil)
  (pss_cons (ps_asg (pe_op op_add (pe_ix ix_list (pv 0) pe_int (fun _ _ => rfl)) pe_int) (pg_sub (pv 0) pe_int set_list))
  (pss_cons (ps_set (i := 3) sc__law_draw.nd rfl (Or.inl rfl) (pe_ix ix_list (pe_lst (pa_cons pe_int (pa_cons pe_int (pa_cons pe_int (pa_cons pe_int (pa_cons pe_int (pa_cons pe_int (pa_cons pe_int pa_nil)))))))) (pe_op op_modN (pe_callTy call_int1 (by rfl) G.b_int (by decide +kernel) (pa_cons (pe_ix ix_list (pv 0) pe_int (fun _ _ => rfl)) pa_nil)) pe_int) (fun _ _ => rfl)))
  (pss_cons (ps_set (i := 4) sc__law_draw.nd rfl (Or.inl rfl) (pe_op op_modN (pe_callTy call_int1 (by rfl) G.b_int (by decide +kernel) (pa_cons (pe_op op_pow (pe_op op_add (pe_op op_add (pe_ix ix_list (pv 0) pe_int (fun _ _ => rfl)) (pe_op op_mul pe_int (pe_ix ix_list (pv 0) pe_int (fun _ _ => rfl)))) pe_int) pe_int) pa_nil)) (pv 3)))
  (pss_cons (ps_set (i := 4) sc__law_draw.nd rfl (Or.inl rfl) (pe_op op_modN (pe_callTy call_int1 (by rfl) G.b_int (by decide +kernel) (pa_cons (pe_op op_mul (pe_op op_add (pv 4) (pe_ix ix_list (pv 0) pe_int (fun _ _ => rfl))) (pe_op op_add (pe_op op_fdivN (pv 4) pe_int) pe_int)) pa_nil)) (pv 3)))
  (pss_one (ps_ret (pe_op op_modN (pe_callTy call_int1 (by rfl) G.b_int (by decide +kernel) (pa_cons (pe_op op_fdivN (pv 4) pe_int) pa_nil)) (pv 1))))))))), ?_⟩
    walk_at "go"
    refine iteD (fun c => ?_) (fun c => ?_)
    · walk_at "go"
      have e1 := fm (x := w0) hm0
      have e2 := fdv hm0 h0
      refine k _ _ e1.1 e1.2 (fun b o hb ho => by rw [upd_ne hb]; exact ho) ⟨_, _, _, upd_same, e2.1, h1, h1', h2, by omega, by omega⟩
    · walk_at "go"
      walk_at "ds"
      refine ⟨by decide, fun p hp => ?_⟩
      obtain ⟨npa, hp0⟩ := upd_none hp
      walk_at "go"
      try walk_at "ds"
      have e7 := fm (x := w2 + 1) (m := 7) (by decide)
      obtain ⟨v, hv, hv1, hv2⟩ := at7 e7.1 e7.2
      refine ⟨_, _, _, _, rfl, rfl, SqL.of upd_same, hv, ?_⟩
      walk_at "go"
      have e1 := fm (x := (w1 + 7919 * (w2 + 1) + 1) ^ Int.toNat 5) (m := v) (by omega)
      generalize ((w1 + 7919 * (w2 + 1) + 1) ^ Int.toNat 5).fmod v = n1 at *
      refine ⟨Or.inl ⟨by omega, by omega⟩, ?_⟩
      walk_at "go"
      refine k _ _ (fm hm0).1 (fm hm0).2 (fun b o hb ho => ?_) ⟨_, _, _, Eq.trans (upd_ne (Ne.symm npa)) upd_same, h0, h1, h1', by omega, by omega, by omega⟩
      rw [upd_ne (ne_of_none ho hp0), upd_ne hb]
      exact ho
theorem ok__law_one (G : Txt K mg A) : FnOk P w K mg base CX0 2 A.a__law_one A.fd__law_one p__law_one (spOne K) := by
  refine G.f__law_one.ok sc__law_one (fun vs H Q E h => ?_) (fun cdv A' outer s H vs Q E hr h => ?_)
  · obtain ⟨a, l, xs, B, rfl, _⟩ := h
    rfl
  · obtain ⟨a, l, xs, B, rfl, hl, hne, hx0, hx1, hw, hB, k⟩ := h
    refine ⟨_, (pss_one (ps_ret (pe_ix ix_list (pv 1) (pe_call (ok__law_draw G) (hr.mono (by decide)) rfl G.g__law_draw G.k__law_draw G.bi__law_draw .nil pass0 (pa_cons (pv 0) (pa_cons (pe_callB call_len_seq (by rfl) G.b_len (by decide +kernel) (pa_cons (pv 1) pa_nil)) pa_nil))) (fun _ _ => rfl)))), ?_⟩
    walk_at "go"
    refine ⟨a, xs.length, B, rfl, by omega, by omega, hw, hB, fun d H' d0 d1 kp hw' => ?_⟩
    obtain ⟨v, hv, hm⟩ := atI_in d0 d1
    exact ⟨_, _, _, _, rfl, rfl, SqL.of (kp _ _ hne hl), hv, k v H' hm kp hw'⟩
end
end My
set_option Elab.async false
set_option linter.all false
set_option maxRecDepth 100000
set_option maxHeartbeats 4000000
namespace My
open PySem L2
local macro_rules | `(tactic| walk_at "ds") => `(tactic| dsimp only [tSeq, tIfS, tTest, tB, tAnd, tOr, tNot, tAndV, tOrV, tNotV, tIf, tIsN, tNotN, tOp, tUn, tChain, rI, rI0, rU, tC, tCB, tCons, tNil, tAsg, gName, gSub, tRet, tRetN, tNext, tDrop, tLst, tTup, rIxL, rIxT, rSetL, tVar, tFld, tCall, tDGet, tDIn, tDNotIn, tNever, L2.start, List.map, List.replicate, List.length, List.append, List.cons_append, List.nil_append, List.set, Nat.sub])
local macro_rules | `(tactic| walk_at "hp") => `(tactic| first | assumption | exact upd_same | (refine Eq.trans (upd_ne (by first | assumption | (apply Ne.symm; assumption))) ?_; walk_at "hp"))
local macro_rules | `(tactic| walk_at "sd") => `(tactic| first
  | (show (_ : Int) ≠ 0; omega)
  | (refine (show CDivN _ _ from ⟨?_, ?_⟩) <;> omega)
  | (show CPow _ _; refine ⟨by omega, by omega, by omega⟩)
  | (show CMul _ _; exact Or.inl ⟨by omega, by omega⟩)
  | (show CMul _ _; exact Or.inr ⟨by omega, by omega⟩))
local macro_rules | `(tactic| walk_at "st") => `(tactic| first
  | refine ⟨_, rfl, ?_⟩
  | refine ⟨_, _, rfl, rfl, (by walk_at "sd"), ?_⟩
  | refine ⟨_, _, rfl, rfl, ?_⟩
  | refine ⟨_, _, _, _, rfl, rfl, SqL.of (by walk_at "hp"), rfl, ?_⟩
  | refine ⟨_, _, _, _, rfl, rfl, (by walk_at "hp"), rfl, ?_⟩
  | refine .inl ⟨_, rfl, ?_⟩
  | refine ⟨_, _, _, _, _, rfl, (by walk_at "hp"), (by assumption), (by assumption), rfl, ?_⟩
  | refine ⟨_, _, rfl, .inl (SqL.of (by walk_at "hp")), ?_⟩)
local macro_rules | `(tactic| walk_at "go") => `(tactic| repeat (first | walk_at "st" | (walk_at "ds"; walk_at "st")))
local macro_rules | `(tactic| walk_at "ni") => `(tactic| dsimp (config := { proj := false }) only [tNil, List.cons_append, List.nil_append])
@[irreducible] def spDrawI : Sp := spDraw
@[irreducible] def spOneI (K : PySem.W.Frag) : Sp := spOne K
theorem drawI {vs : List V} {H : Hp} {Q : VK} {E : XK} (h : spDraw vs H Q E) : spDrawI vs H Q E := by
  unfold spDrawI
  exact h
theorem oneI {K : PySem.W.Frag} {vs : List V} {H : Hp} {Q : VK} {E : XK} (h : spOne K vs H Q E) : spOneI K vs H Q E := by
  unfold spOneI
  exact h
section
variable {P : Program} {w : World} {K : PySem.W.Frag} {mg : Str → Option Value} {base : Heap} {A : Adr}
theorem ok__law_drawI (G : Txt K mg A) : FnOk P w K mg base CX0 1 A.a__law_draw A.fd__law_draw p__law_draw spDrawI := by
  unfold spDrawI
  exact ok__law_draw G
theorem ok__law_oneI (G : Txt K mg A) : FnOk P w K mg base CX0 2 A.a__law_one A.fd__law_one p__law_one (spOneI K) := by
  unfold spOneI
  exact ok__law_one G
end
end My
set_option Elab.async false
set_option linter.all false
set_option maxRecDepth 100000
set_option maxHeartbeats 4000000
namespace My
open PySem L2
local macro_rules | `(tactic| walk_at "ds") => `(tactic| dsimp only [tSeq, tIfS, tTest, tB, tAnd, tOr, tNot, tAndV, tOrV, tNotV, tIf, tIsN, tNotN, tOp, tUn, tChain, rI, rI0, rU, tC, tCB, tCons, tNil, tAsg, gName, gSub, tRet, tRetN, tNext, tDrop, tLst, tTup, rIxL, rIxT, rSetL, tVar, tFld, tCall, tDGet, tDIn, tDNotIn, tNever, L2.start, List.map, List.replicate, List.length, List.append, List.cons_append, List.nil_append, List.set, Nat.sub])
local macro_rules | `(tactic| walk_at "hp") => `(tactic| first | assumption | exact upd_same | (refine Eq.trans (upd_ne (by first | assumption | (apply Ne.symm; assumption))) ?_; walk_at "hp"))
local macro_rules | `(tactic| walk_at "sd") => `(tactic| first
  | (show (_ : Int) ≠ 0; omega)
  | (refine (show CDivN _ _ from ⟨?_, ?_⟩) <;> omega)
  | (show CPow _ _; refine ⟨by omega, by omega, by omega⟩)
  | (show CMul _ _; exact Or.inl ⟨by omega, by omega⟩)
  | (show CMul _ _; exact Or.inr ⟨by omega, by omega⟩))
local macro_rules | `(tactic| walk_at "st") => `(tactic| first
  | refine ⟨_, rfl, ?_⟩
  | refine ⟨_, _, rfl, rfl, (by walk_at "sd"), ?_⟩
  | refine ⟨_, _, rfl, rfl, ?_⟩
  | refine ⟨_, _, _, _, rfl, rfl, SqL.of (by walk_at "hp"), rfl, ?_⟩
  | refine ⟨_, _, _, _, rfl, rfl, (by walk_at "hp"), rfl, ?_⟩
  | refine .inl ⟨_, rfl, ?_⟩
  | refine ⟨_, _, _, _, _, rfl, (by walk_at "hp"), (by assumption), (by assumption), rfl, ?_⟩
  | refine ⟨_, _, rfl, .inl (SqL.of (by walk_at "hp")), ?_⟩)
local macro_rules | `(tactic| walk_at "go") => `(tactic| repeat (first | walk_at "st" | (walk_at "ds"; walk_at "st")))
local macro_rules | `(tactic| walk_at "ni") => `(tactic| dsimp (config := { proj := false }) only [tNil, List.cons_append, List.nil_append])
def isStr : V → Bool
  | .str _ => true
  | _ => false
/-- tuples, and lists of texts: they are never changed -/
def isTL : HO → Bool
  | .tup _ => true
  | .lst xs => xs.all isStr
  | _ => false
def Kt (H H' : Hp) : Prop := ∀ b o, H b = some o → isTL o = true → H' b = some o
theorem Kt.same {H H' : Hp} (s : Same H H') : Kt H H' := fun b o e _ => s b o e
theorem Kt.trans {H H1 H2 : Hp} (a : Kt H H1) (b : Kt H1 H2) : Kt H H2 := fun c o e i => b c o (a c o e i) i
theorem Kt.upd {H : Hp} {d : Addr} {o u : HO} (h : H d = some o) (hi : isTL o = false) : Kt H (L2.upd H d u) := fun b v e i => by
  by_cases z : b = d
  · rw [z, h] at e
    cases e
    rw [hi] at i
    cases i
  · rw [upd_ne z]
    exact e
theorem Kt.draw {H H' : Hp} {a : Addr} {B : Nat} (w : WellAt H a B) (s : But a H H') : Kt H H' := fun b o e i => s b o (fun z => by
  obtain ⟨w0, w1, w2, h1, _⟩ := w
  rw [z, h1] at e
  cases e
  cases i) e
theorem Kt.go {CS CP CH : Addr} {H H' : Hp} {x : Addr} {w : Wh} {S : Sys} {τ τ' : Tm} {cnt : Int → Int → Nat} (hS : SyA CS CP CH H x w S τ cnt) (g : Go τ H τ' H') : Kt H H' := fun b o e i => by
  cases hl : isLst o with
  | true => cases o <;> first | exact g.ls _ _ e | (cases hl; done)
  | false =>
    refine g.fr b o ?_ e
    cases eg : τ b with
    | none => rfl
    | some t =>
      rcases hS.own b t eg with q | ⟨o', q1, q2⟩
      · rw [q, hS.hx] at e; cases e; cases i
      · rw [e] at q1; cases q1; cases o <;> first | (cases i; done) | (cases q2; done) | (cases hl; done)
theorem strs_tl (ss : List Str) : isTL (.lst (ss.map V.str)) = true := by
  show (ss.map V.str).all isStr = true
  rw [List.all_map]
  exact List.all_eq_true.mpr fun _ _ => rfl
theorem srcR.kt {H H' : Hp} {v : V} {s : Src} (h : srcR H v s) (k : Kt H H') : srcR H' v s := by
  cases s with
  | non => exact h
  | file n => obtain ⟨a, e1, e2⟩ := h; exact ⟨a, e1, k _ _ e2 rfl⟩
  | obj j => obtain ⟨a, e1, e2⟩ := h; exact ⟨a, e1, k _ _ e2 rfl⟩
/-- a row that stands for a page -/
def RwR (H : Hp) (v : V) (g : Pg) : Prop := ∃ t sv fa, v = .ref t ∧ H t = some (.tup [.str g.r, .bl g.sh, sv, ixV g.ix, .ref fa]) ∧ srcR H sv g.src ∧ H fa = some (.lst ((flL g.fl).map V.str))
theorem RwR.kt {H H' : Hp} {v : V} {g : Pg} (h : RwR H v g) (k : Kt H H') : RwR H' v g := by
  obtain ⟨t, sv, fa, e, h1, h2, h3⟩ := h
  exact ⟨t, sv, fa, e, k _ _ h1 rfl, h2.kt k, k _ _ h3 (strs_tl _)⟩
def RwO (H : Hp) : Option V → Option Pg → Prop
  | none, none => True
  | some v, some g => WfP g ∧ RwR H v g
  | _, _ => False
theorem RwO.kt {H H' : Hp} (k : Kt H H') : ∀ {v : Option V} {g : Option Pg}, RwO H v g → RwO H' v g
  | none, none, _ => True.intro
  | some _, some _, h => ⟨h.1, h.2.kt k⟩
theorem RwO.isSome {H : Hp} : ∀ {v : Option V} {g : Option Pg}, RwO H v g → v.isSome = g.isSome
  | none, none, _ => rfl
  | some _, some _, _ => rfl
/-- the dict of a process -/
def SpR (H : Hp) (d : Addr) (L : Tb) : Prop := ∃ kvs f, H d = some (.dK kvs) ∧ DI kvs f ∧ (∀ n, RwO H (f n) (L n)) ∧ ∀ n, (L n).isSome = true → 0 ≤ n ∧ n < (512 : Nat)
theorem SpR.kt {H H' : Hp} {d : Addr} {L : Tb} (h : SpR H d L) (k : Kt H H') (e : ∀ o, H d = some o → H' d = some o) : SpR H' d L := by
  obtain ⟨kvs, f, h1, h2, h3, h4⟩ := h
  exact ⟨kvs, f, e _ h1, h2, fun n => (h3 n).kt k, h4⟩
def dFlL (f : Fl) : PyData := .list ((flL f).map PyData.str)
def dRow (g : Pg) : PyData := .tuple [.str g.r, .bool g.sh, dSrc g.src, dIx g.ix, dFlL g.fl]
theorem dFlL_eqv (a b : Fl) : PyData.eqv (dFlL a) (dFlL b) = decide (a = b) := by
  obtain ⟨a1, a2, a3⟩ := a
  obtain ⟨b1, b2, b3⟩ := b
  cases a1 <;> cases a2 <;> cases a3 <;> cases b1 <;> cases b2 <;> cases b3 <;> decide +kernel
theorem dpFlL {K : PySem.W.Frag} {H : Hp} {a : Addr} {f : Fl} (h : H a = some (.lst ((flL f).map V.str))) : Dp K H (.ref a) (dFlL f) := .lst (SqL.of h) (dpStrs _)
theorem dpRow {K : PySem.W.Frag} {H : Hp} {v : V} {g : Pg} (h : RwR H v g) : Dp K H v (dRow g) := by
  obtain ⟨t, sv, fa, rfl, h1, h2, h3⟩ := h
  exact .tup (SqT.of h1) (.cons (.str _) (.cons (.bl _) (.cons (dpSrc h2) (.cons (dpIx _) (.cons (dpFlL h3) .nil)))))
theorem str_ok5 : PyData.strOk (Str.ofString "file") = true ∧ PyData.strOk (Str.ofString "object") = true ∧ PyData.strOk (Str.ofString "merge") = true ∧ PyData.strOk (Str.ofString "stay") = true ∧ PyData.strOk (Str.ofString "wipe") = true := by
  refine ⟨?_, ?_, ?_, ?_, ?_⟩ <;> decide +kernel
theorem layRow {g : Pg} (wf : WfP g) : PyData.canLay0 (dRow g) = true ∧ PyData.depth (dRow g) ≤ 3 := by
  obtain ⟨o1, o2, o3, o4, o5⟩ := str_ok5
  have h1 := wf.okR
  have h2 := wf.okN
  obtain ⟨r, sh, s, i, ⟨f1, f2, f3⟩⟩ := g
  simp only at h1 h2
  cases s with
  | non => cases i <;> cases f1 <;> cases f2 <;> cases f3 <;> simp [dRow, dSrc, dIx, dFlL, flL, PyData.canLay0, PyData.canLayAll0, PyData.depth, PyData.depthAll, h1, o3, o4, o5]
  | file n =>
    have h3 := h2 n rfl
    cases i <;> cases f1 <;> cases f2 <;> cases f3 <;> simp [dRow, dSrc, dIx, dFlL, flL, PyData.canLay0, PyData.canLayAll0, PyData.depth, PyData.depthAll, h1, h3, o1, o3, o4, o5]
  | obj k => cases i <;> cases f1 <;> cases f2 <;> cases f3 <;> simp [dRow, dSrc, dIx, dFlL, flL, PyData.canLay0, PyData.canLayAll0, PyData.depth, PyData.depthAll, h1, o2, o3, o4, o5]
theorem shaped_of {d : PyData} (h : PyData.canLay0 d = true) (n : PyData.depth d ≤ 60) : SeqAt.shaped d = true := by
  unfold SeqAt.shaped
  rw [h]
  simp
  omega
/-- the first three items -/
def d3 (g : Pg) : PyData := .tuple [.str g.r, .bool g.sh, dSrc g.src]
theorem d3_eqv (a b : Pg) : PyData.eqv (d3 a) (d3 b) = decide (a.r = b.r ∧ a.sh = b.sh ∧ a.src = b.src) := by
  show ((a.r == b.r) && ((a.sh == b.sh) && (PyData.eqv (dSrc a.src) (dSrc b.src) && true))) = _
  rw [dSrc_eqv, Bool.and_true]
  by_cases h1 : a.r = b.r <;> by_cases h2 : a.sh = b.sh <;> by_cases h3 : a.src = b.src <;> simp [h1, h2, h3]
theorem shaped3 {g : Pg} (wf : WfP g) : SeqAt.shaped (d3 g) = true := by
  obtain ⟨o1, o2, _, _, _⟩ := str_ok5
  have h1 := wf.okR
  have h2 := wf.okN
  refine shaped_of ?_ ?_
  · cases es : g.src with
    | non => simp [d3, dSrc, PyData.canLay0, PyData.canLayAll0, h1, es]
    | file n => simp [d3, dSrc, PyData.canLay0, PyData.canLayAll0, h1, es, o1, h2 n es]
    | obj k => simp [d3, dSrc, PyData.canLay0, PyData.canLayAll0, h1, es, o2]
  · cases es : g.src <;> simp [d3, dSrc, PyData.depth, PyData.depthAll, es]
theorem shapedFlL (f : Fl) : SeqAt.shaped (dFlL f) = true := by
  obtain ⟨_, _, o3, o4, o5⟩ := str_ok5
  obtain ⟨f1, f2, f3⟩ := f
  refine shaped_of ?_ ?_
  · cases f1 <;> cases f2 <;> cases f3 <;> simp [dFlL, flL, PyData.canLay0, PyData.canLayAll0, o3, o4, o5]
  · cases f1 <;> cases f2 <;> cases f3 <;> simp [dFlL, flL, PyData.depth, PyData.depthAll]
/-- whether a row goes on behind the last one -/
theorem nxt_iff {a b : Pg} (wa : WfP a) (wb : WfP b) : b = nxt a ↔ (b.r = a.r ∧ b.sh = a.sh ∧ b.src = a.src) ∧ b.fl = a.fl ∧ (a.ix = none ∨ ∃ i, a.ix = some i ∧ b.ix = some (i + 1)) := by
  constructor
  · rintro rfl
    refine ⟨⟨rfl, rfl, rfl⟩, rfl, ?_⟩
    cases e : a.ix with
    | none => exact .inl rfl
    | some i => exact .inr ⟨i, rfl, by unfold nxt; rw [e]; rfl⟩
  · rintro ⟨⟨h1, h2, h3⟩, h4, h5⟩
    obtain ⟨r, sh, s, i, f⟩ := a
    obtain ⟨r', sh', s', i', f'⟩ := b
    simp only at h1 h2 h3 h4
    subst h1 h2 h3 h4
    unfold nxt
    simp only [Pg.mk.injEq, true_and, and_true]
    rcases h5 with e | ⟨k, e1, e2⟩
    · simp only at e
      subst e
      by_cases hs : s' = .non
      · have := wb.no hs
        simpa using this
      · obtain ⟨j, ej, _⟩ := wa.ix hs
        cases ej
    · simp only at e1 e2
      subst e1 e2
      rfl
/-- the page k places behind -/
def addIx (g : Pg) (k : Int) : Pg := { g with ix := g.ix.map (· + k) }
theorem addIx_0 (g : Pg) : addIx g 0 = g := by
  obtain ⟨r, sh, s, i, f⟩ := g
  cases i <;> simp [addIx]
theorem addIx_nxt (g : Pg) (k : Int) : nxt (addIx g k) = addIx g (k + 1) := by
  unfold nxt addIx
  cases g.ix with
  | none => rfl
  | some i => simp [Int.add_assoc]
structure Rgn (T : Tb) (acc : List (Int × Int)) (done : List Int) : Prop where
  last : ∀ q, acc.getLast? = some q → done.getLast? = some (q.1 + q.2 - 1)
  run : ∀ q ∈ acc, 1 ≤ q.2 ∧ ∃ g, T q.1 = some g ∧ ∀ k : Int, 0 ≤ k → k < q.2 → T (q.1 + k) = some (addIx g k)
  none_ : acc = [] → done = []
theorem getLast_app {α : Type} (l : List α) (x : α) : (l ++ [x]).getLast? = some x := by rw [List.getLast?_append]; rfl
theorem lt_last {l : List Int} (h : l.Pairwise (· < ·)) {z : Int} (e : l.getLast? = some z) {y : Int} (hy : y ∈ l) : y ≤ z := by
  have ne : l ≠ [] := fun u => by rw [u] at hy; cases hy
  have e1 : l = l.dropLast ++ [z] := by
    have := List.dropLast_concat_getLast ne
    rw [List.getLast?_eq_some_getLast ne] at e
    rw [Option.some.inj e] at this
    exact this.symm
  rw [e1] at h hy
  rcases List.mem_append.mp hy with u | u
  · exact Int.le_of_lt ((List.pairwise_append.mp h).2.2 y u z List.mem_cons_self)
  · rw [List.mem_singleton.mp u]
    exact Int.le_refl _
/-- whether the page n goes on behind the run q, told as the law tells it -/
theorem Rgn.cont {T : Tb} {acc : List (Int × Int)} {done : List Int} {n : Int} {q : Int × Int} (h : Rgn T acc done) (el : acc.getLast? = some q) (pw : (done ++ [n]).Pairwise (· < ·)) (all : (T (n - 1)).isSome = true → n - 1 ∈ done ++ [n]) {gl g : Pg} (e1 : T (q.1 + q.2 - 1) = some gl) (e2 : T n = some g) :
    My.cont (T (n - 1)) (T n) = (decide (q.1 + q.2 = n) && decide (g = nxt gl)) := by
  have hz := h.last q el
  have pd := (List.pairwise_append.mp pw).1
  have lt := (List.pairwise_append.mp pw).2.2 _ (List.mem_of_getLast? hz) n List.mem_cons_self
  by_cases c : q.1 + q.2 = n
  · rw [decide_eq_true c, Bool.true_and]
    have : n - 1 = q.1 + q.2 - 1 := by omega
    rw [this, e1, e2]
    rfl
  · rw [decide_eq_false c, Bool.false_and]
    cases e3 : T (n - 1) with
    | none => rw [e2]; rfl
    | some g1 =>
      have m := all (by rw [e3]; rfl)
      rcases List.mem_append.mp m with u | u
      · have := lt_last pd hz u
        omega
      · have := List.mem_singleton.mp u
        omega
theorem Rgn.step {T : Tb} {acc : List (Int × Int)} {done : List Int} {n : Int} (h : Rgn T acc done) (pw : (done ++ [n]).Pairwise (· < ·)) (all : (T (n - 1)).isSome = true → n - 1 ∈ done ++ [n]) {g : Pg} (e2 : T n = some g) : Rgn T (stepR T acc n) (done ++ [n]) := by
  have one : ∀ q, q = (n, (1 : Int)) → 1 ≤ q.2 ∧ ∃ g, T q.1 = some g ∧ ∀ k : Int, 0 ≤ k → k < q.2 → T (q.1 + k) = some (addIx g k) := fun q e => by
    subst e
    refine ⟨Int.le_refl _, g, e2, fun k k0 k1 => ?_⟩
    have k1' : k < 1 := k1
    have : k = 0 := by omega
    rw [this, addIx_0]
    show T (n + 0) = some g
    rw [Int.add_zero, e2]
  unfold stepR
  cases el : acc.getLast? with
  | none =>
    refine ⟨fun q hq => ?_, fun q hq => one q (List.mem_singleton.mp hq), fun z => (nomatch z)⟩
    have : (n, (1 : Int)) = q := Option.some.inj hq
    rw [← this, getLast_app]
    show some n = some (n + 1 - 1)
    congr 1
    omega
  | some q =>
    simp only
    have hq := List.mem_of_getLast? el
    obtain ⟨q2, g0, eg0, hk⟩ := h.run q hq
    have egl : T (q.1 + q.2 - 1) = some (addIx g0 (q.2 - 1)) := by
      have := hk (q.2 - 1) (by omega) (by omega)
      have e : q.1 + (q.2 - 1) = q.1 + q.2 - 1 := by omega
      rw [e] at this
      exact this
    have hc := h.cont el pw all egl e2
    split
    · rename_i hcc
      rw [hcc] at hc
      have hc2 := hc.symm
      rw [Bool.and_eq_true, decide_eq_true_eq, decide_eq_true_eq] at hc2
      refine ⟨fun r hr => ?_, fun r hr => ?_, fun z => absurd z (by simp)⟩
      · rw [getLast_app] at hr
        have : (q.1, q.2 + 1) = r := Option.some.inj hr
        rw [← this, getLast_app]
        show some n = some (q.1 + (q.2 + 1) - 1)
        congr 1
        omega
      · rcases List.mem_append.mp hr with u | u
        · exact h.run r (List.dropLast_subset _ u)
        · rw [List.mem_singleton.mp u]
          refine ⟨by show 1 ≤ q.2 + 1; omega, g0, eg0, fun k k0 k1 => ?_⟩
          have k1' : k < q.2 + 1 := k1
          by_cases ek : k < q.2
          · exact hk k k0 ek
          · have e3 : k = q.2 := by omega
            show T (q.1 + k) = some (addIx g0 k)
            rw [e3, hc2.1, e2, hc2.2, addIx_nxt]
            have : q.2 - 1 + 1 = q.2 := by omega
            rw [this]
    · refine ⟨fun r hr => ?_, fun r hr => ?_, fun z => absurd z (by simp)⟩
      · rw [getLast_app] at hr
        have : (n, (1 : Int)) = r := Option.some.inj hr
        rw [← this, getLast_app]
        show some n = some (n + 1 - 1)
        congr 1
        omega
      · rcases List.mem_append.mp hr with u | u
        · exact h.run r u
        · exact one r (List.mem_singleton.mp u)
end My
set_option Elab.async false
set_option linter.all false
set_option maxRecDepth 100000
set_option maxHeartbeats 4000000
namespace My
open PySem L2
local macro_rules | `(tactic| walk_at "ds") => `(tactic| dsimp only [tSeq, tIfS, tTest, tB, tAnd, tOr, tNot, tAndV, tOrV, tNotV, tIf, tIsN, tNotN, tOp, tUn, tChain, rI, rI0, rU, tC, tCB, tCons, tNil, tAsg, gName, gSub, tRet, tRetN, tNext, tDrop, tLst, tTup, rIxL, rIxT, rSetL, tVar, tFld, tCall, tDGet, tDIn, tDNotIn, tNever, L2.start, List.map, List.replicate, List.length, List.append, List.cons_append, List.nil_append, List.set, Nat.sub])
local macro_rules | `(tactic| walk_at "hp") => `(tactic| first | assumption | exact upd_same | (refine Eq.trans (upd_ne (by first | assumption | (apply Ne.symm; assumption))) ?_; walk_at "hp"))
local macro_rules | `(tactic| walk_at "sd") => `(tactic| first
  | (show (_ : Int) ≠ 0; omega)
  | (refine (show CDivN _ _ from ⟨?_, ?_⟩) <;> omega)
  | (show CPow _ _; refine ⟨by omega, by omega, by omega⟩)
  | (show CMul _ _; exact Or.inl ⟨by omega, by omega⟩)
  | (show CMul _ _; exact Or.inr ⟨by omega, by omega⟩))
local macro_rules | `(tactic| walk_at "st") => `(tactic| first
  | refine ⟨_, rfl, ?_⟩
  | refine ⟨_, _, rfl, rfl, (by walk_at "sd"), ?_⟩
  | refine ⟨_, _, rfl, rfl, ?_⟩
  | refine ⟨_, _, _, _, rfl, rfl, SqL.of (by walk_at "hp"), rfl, ?_⟩
  | refine ⟨_, _, _, _, rfl, rfl, (by walk_at "hp"), rfl, ?_⟩
  | refine .inl ⟨_, rfl, ?_⟩
  | refine ⟨_, _, _, _, _, rfl, (by walk_at "hp"), (by assumption), (by assumption), rfl, ?_⟩
  | refine ⟨_, _, rfl, .inl (SqL.of (by walk_at "hp")), ?_⟩)
local macro_rules | `(tactic| walk_at "go") => `(tactic| repeat (first | walk_at "st" | (walk_at "ds"; walk_at "st")))
local macro_rules | `(tactic| walk_at "ni") => `(tactic| dsimp (config := { proj := false }) only [tNil, List.cons_append, List.nil_append])
theorem tAnd_s {t u : TT} {σ : St} {H : Hp} {Q : Bool → Hp → Prop} {b c : Bool} (h1 : ∀ Q' : Bool → Hp → Prop, (∀ H', Same H H' → Q' b H') → t σ H Q') (h2 : b = true → ∀ H1, Same H H1 → ∀ Q' : Bool → Hp → Prop, (∀ H', Same H1 H' → Q' c H') → u σ H1 Q')
    (k : ∀ H', Same H H' → Q (b && c) H') : tAnd t u σ H Q :=
  h1 _ fun H1 s1 => iteB (fun e => h2 e H1 s1 _ fun H' s' => by rw [e] at k; exact k H' (s1.trans s')) (fun e => by rw [e] at k; exact k H1 s1)
def FnE (H Z : Hp) (T : Tb) (v : V) (q : Int × Int) : Prop := ∃ t rv gl, v = .ref t ∧ Z t = some (.tup [.int q.1, .int q.2, rv]) ∧ T (q.1 + q.2 - 1) = some gl ∧ WfP gl ∧ RwR H rv gl
def FnR (H Z : Hp) (T : Tb) : List V → List (Int × Int) → Prop
  | [], [] => True
  | v :: vs, q :: qs => FnE H Z T v q ∧ FnR H Z T vs qs
  | _, _ => False
theorem FnE.keep {H Z Z' : Hp} {T : Tb} {v : V} {q : Int × Int} (k : ImmK Z Z') (h : FnE H Z T v q) : FnE H Z' T v q := by
  obtain ⟨t, rv, gl, e, h1, h2, h3, h4⟩ := h
  exact ⟨t, rv, gl, e, k _ _ h1 rfl, h2, h3, h4⟩
theorem FnR.keep {H Z Z' : Hp} {T : Tb} (k : ImmK Z Z') : ∀ {vs : List V} {qs : List (Int × Int)}, FnR H Z T vs qs → FnR H Z' T vs qs
  | [], [], _ => True.intro
  | _ :: _, _ :: _, h => ⟨h.1.keep k, FnR.keep k h.2⟩
theorem FnR.snoc {H Z : Hp} {T : Tb} {v : V} {q : Int × Int} (hv : FnE H Z T v q) : ∀ {vs : List V} {qs : List (Int × Int)}, FnR H Z T vs qs → FnR H Z T (vs ++ [v]) (qs ++ [q])
  | [], [], _ => ⟨hv, True.intro⟩
  | _ :: _, _ :: _, h => ⟨h.1, FnR.snoc hv h.2⟩
theorem FnR.length {H Z : Hp} {T : Tb} : ∀ {vs : List V} {qs : List (Int × Int)}, FnR H Z T vs qs → vs.length = qs.length
  | [], [], _ => rfl
  | _ :: _, _ :: _, h => congrArg (· + 1) (FnR.length h.2)
theorem FnR.get {H Z : Hp} {T : Tb} : ∀ {vs : List V} {qs : List (Int × Int)} {j : Nat} {v : V}, FnR H Z T vs qs → vs[j]? = some v → ∃ q, qs[j]? = some q ∧ FnE H Z T v q
  | _ :: _, q :: _, 0, _, h, e => by
    have e' := Option.some.inj e
    subst e'
    exact ⟨q, rfl, h.1⟩
  | _ :: vs, _ :: qs, j + 1, v, h, e => FnR.get (j := j) h.2 e
theorem FnR.unsnoc {H Z : Hp} {T : Tb} : ∀ {qs : List (Int × Int)} {q : Int × Int} {vs : List V}, FnR H Z T vs (qs ++ [q]) → ∃ us v, vs = us ++ [v] ∧ FnR H Z T us qs ∧ FnE H Z T v q
  | [], q, [v], h => ⟨[], v, rfl, True.intro, h.1⟩
  | [], q, [], h => h.elim
  | [], q, _ :: _ :: _, h => h.2.elim
  | _ :: _, q, [], h => h.elim
  | _ :: qs, q, v :: vs, h => by
    obtain ⟨us, w, e, h1, h2⟩ := FnR.unsnoc (qs := qs) h.2
    exact ⟨v :: us, w, by rw [e]; rfl, ⟨h.1, h1⟩, h2⟩
theorem FnR.dp {K : PySem.W.Frag} {H Z : Hp} {T : Tb} (s : Same H Z) : ∀ {vs : List V} {qs : List (Int × Int)}, FnR H Z T vs qs → ∃ ds, DpAll K Z vs ds ∧ ds.length = vs.length ∧ PyData.canLayAll0 ds = true ∧ PyData.depthAll ds ≤ 5
  | [], [], _ => ⟨[], .nil, rfl, rfl, Nat.zero_le _⟩
  | v :: vs, q :: qs, h => by
    obtain ⟨ds, h1, h2, h3, h4⟩ := FnR.dp (K := K) s h.2
    obtain ⟨t, rv, gl, rfl, e1, e2, wf, e4⟩ := h.1
    obtain ⟨l1, l2⟩ := layRow wf
    refine ⟨.tuple [.int q.1, .int q.2, dRow gl] :: ds, .cons (.tup (SqT.of e1) (.cons (.int _) (.cons (.int _) (.cons (dpRow (e4.kt (Kt.same s))) .nil)))) h1, congrArg (· + 1) h2, ?_, ?_⟩
    · simp [PyData.canLayAll0, PyData.canLay0, l1, h3]
    · simp [PyData.depthAll, PyData.depth]
      omega
theorem eqv_nil (ds : List PyData) : PyData.eqv (.list ds) (.list []) = ds.isEmpty := by
  rw [PyData.eqv]
  cases ds <;> simp [PyData.eqvAll]
/-- goes on, as the law asks it -/
def goes (a b : Pg) : Bool := decide (ixV a.ix = .non) || (match a.ix with
  | some i => decide (ixV b.ix = .int (i + 1))
  | none => false)
theorem goes_iff (a b : Pg) : goes a b = true ↔ (a.ix = none ∨ ∃ i, a.ix = some i ∧ b.ix = some (i + 1)) := by
  unfold goes
  cases ea : a.ix with
  | none => simp [ixV]
  | some i =>
    cases eb : b.ix with
    | none => simp [ixV]
    | some j => simp [ixV]
theorem law_nxt {a b : Pg} (wa : WfP a) (wb : WfP b) : (decide (b.r = a.r ∧ b.sh = a.sh ∧ b.src = a.src) && (decide (b.fl = a.fl) && goes a b)) = decide (b = nxt a) := by
  rw [Bool.eq_iff_iff, Bool.and_eq_true, Bool.and_eq_true, decide_eq_true_eq, decide_eq_true_eq, decide_eq_true_eq, goes_iff, nxt_iff wa wb]
theorem take_isSome {T : Tb} {n : Int} (h : n ∈ keysT T) : (T n).isSome = true := (upTo_mem.mp h).2
theorem tIfS_nc {c : TT} {t u : TS} {D : Ends} {σ : St} {H : Hp} {b : Bool} (Pn : St → Hp → Prop) (hc : ∀ Q' : Bool → Hp → Prop, (∀ H', Same H H' → Q' b H') → c σ H Q') (h1 : b = true → ∀ H', Same H H' → ∀ D' : Ends, (∀ σ' H'', Pn σ' H'' → D'.nx σ' H'') → D'.ct = D.ct → t D' σ H')
    (h2 : b = false → ∀ H', Same H H' → ∀ D' : Ends, (∀ σ' H'', Pn σ' H'' → D'.nx σ' H'') → D'.ct = D.ct → u D' σ H') (k : ∀ σ' H', Pn σ' H' → D.nx σ' H') : tIfS c t u D σ H :=
  hc _ fun H' s => iteB (fun e => h1 e H' s D k rfl) (fun e => h2 e H' s D k rfl)
theorem decI (a b : Int) : decide (V.int a = V.int b) = decide (a = b) := by
  by_cases h : a = b
  · rw [decide_eq_true h, decide_eq_true (by rw [h])]
  · rw [decide_eq_false h, decide_eq_false fun z => h (V.int.inj z)]
theorem set_last {α : Type} (us : List α) (v w : α) : (us ++ [v]).set us.length w = us ++ [w] := by
  induction us with
  | nil => rfl
  | cons u us ih => rw [List.cons_append, List.length_cons, List.set_cons_succ, ih]; rfl
theorem ixN_last (us : List V) (v : V) : ixN (us ++ [v]).length (-1) = some us.length := by
  have hl : (us ++ [v]).length = us.length + 1 := by simp
  unfold ixN
  rw [hl, if_neg (by omega), if_pos (by omega)]
  congr 1
  omega
open PyProof.Rows in
theorem sorted1 (p : Str) (ys : List Str) (hp : ys.Perm [p]) : ys = [p] := List.perm_singleton.mp hp
theorem sorted2 {p q : Str} (h : ∀ x ∈ [p, q], ∀ y ∈ [p, q], [x, y].Perm [p, q] → PyProof.Rows.sortedS [x, y] = true → [x, y] = [p, q]) (ys : List Str) (hp : ys.Perm [p, q]) (hs : PyProof.Rows.sortedS ys = true) : ys = [p, q] := by
  match ys, hp.length_eq with
  | [x, y], _ => exact h x (hp.mem_iff.mp (by simp)) y (hp.mem_iff.mp (by simp)) hp hs
theorem sorted3 {p q r : Str} (h : ∀ x ∈ [p, q, r], ∀ y ∈ [p, q, r], ∀ z ∈ [p, q, r], [x, y, z].Perm [p, q, r] → PyProof.Rows.sortedS [x, y, z] = true → [x, y, z] = [p, q, r]) (ys : List Str) (hp : ys.Perm [p, q, r]) (hs : PyProof.Rows.sortedS ys = true) : ys = [p, q, r] := by
  match ys, hp.length_eq with
  | [x, y, z], _ => exact h x (hp.mem_iff.mp (by simp)) y (hp.mem_iff.mp (by simp)) z (hp.mem_iff.mp (by simp)) hp hs
theorem sorted_fl (f : Fl) : ∀ ys : List Str, ys.Perm (flL f) → PyProof.Rows.sortedS ys = true → ys = flL f := by
  intro ys hp hs
  obtain ⟨a, b, c⟩ := f
  cases a <;> cases b <;> cases c
  · exact List.perm_nil.mp hp
  · exact sorted1 _ _ hp
  · exact sorted1 _ _ hp
  · exact sorted2 (by decide +kernel) _ hp hs
  · exact sorted1 _ _ hp
  · exact sorted2 (by decide +kernel) _ hp hs
  · exact sorted2 (by decide +kernel) _ hp hs
  · exact sorted3 (by decide +kernel) _ hp hs
section
variable {P : Program} {w : World} {K : PySem.W.Frag} {mg : Str → Option Value} {base : Heap} {A : Adr}
def spRgL : Sp := fun vs H Q _ => ∃ (d : Addr) (T : Tb), vs = [.ref d] ∧ SpR H d T ∧ ∀ q rows H', Same H H' → H q = none → H' q = some (.lst rows) → RowsR H' rows (regL T) → Q (.ref q) H'
theorem ok__law_regions (G : Txt K mg A) : FnOk P w K mg base CX0 1 A.a__law_regions A.fd__law_regions p__law_regions spRgL := by
  refine G.f__law_regions.ok sc__law_regions (fun vs H Q E h => ?_) (fun cdv A' outer s H vs Q E hr h => ?_)
  · obtain ⟨d, T, rfl, _⟩ := h
    rfl
  · obtain ⟨d, T, rfl, ⟨kvs, f, hd, di, rw0, dom⟩, k⟩ := h
    refine ⟨_, (pss_cons (ps_set (i := 1) sc__law_regions.nd rfl (Or.inl rfl) (pe_lst pa_nil))
  (pss_cons (ps_for PassesOwn.never rfl (pi_list (pe_callB (call_sortedDL rfl) (by rfl) G.b_sorted (by decide +kernel) (pa_cons (pv 0) pa_nil))) (pg_name (i := 2) sc__law_regions.nd rfl (Or.inl rfl)) (pss_cons (ps_set (i := 3) sc__law_regions.nd rfl (Or.inl rfl) (pe_dget (hu_of hr) (pv 0) (pv 2) (fun _ _ => rfl)))
  (pss_cons (ps_if (pt_cmpR (op_neD (hu64 hr)) (pv 1) (pe_lst pa_nil) (nomark _)) (pss_cons (ps_asg (pe_ix ix_list (pv 1) (pe_un un_neg pe_int) (fun _ _ => rfl)) (pg_tup rfl (pgs_cons (pg_name (i := 4) sc__law_regions.nd rfl (Or.inl rfl)) (pgs_cons (pg_name (i := 5) sc__law_regions.nd rfl (Or.inl rfl)) (pgs_cons (pg_name (i := 6) sc__law_regions.nd rfl (Or.inl rfl)) pgs_nil)))))
  (pss_cons (ps_set (i := 7) sc__law_regions.nd rfl (Or.inl rfl) (pe_or (pe_cmp (pc_isN (pe_ix ix_tup (pv 6) pe_int (fun _ _ => rfl))) rfl) (pe_one (pe_cmpR op_eq (pe_ix ix_tup (pv 3) pe_int (fun _ _ => rfl)) (pe_op op_add (pe_ix ix_tup (pv 6) pe_int (fun _ _ => rfl)) pe_int) (nomark _)))))
  (pss_one (ps_if (PW.pt (pw_and (pt_cmpR op_eq (pe_op op_add (pv 4) (pv 5)) (pv 2) (nomark _)) (pw_and (pt_cmpR (op_eqD (hu64 hr)) (pe_slice sl_tup (pv 3) po_none (po_some pe_int)) (pe_slice sl_tup (pv 6) po_none (po_some pe_int)) (nomark _)) (pw_and (pt_cmpR (op_eqD (hu64 hr)) (pe_ix ix_tup (pv 3) pe_int (fun _ _ => rfl)) (pe_ix ix_tup (pv 6) pe_int (fun _ _ => rfl)) (nomark _)) (pw_and1 (pt_val (pv 7))))))) (pss_cons (ps_asg (pe_tup (pa_cons (pv 4) (pa_cons (pe_op op_add (pv 5) pe_int) (pa_cons (pv 3) pa_nil)))) (pg_sub (pv 1) (pe_un un_neg pe_int) set_list))
  (pss_one ps_continue)) pss_nil)))) pss_nil)
  (pss_one (ps_expr (pe_bm PySem.F.plainAttrs_list PySem.F.slot_list_append PySem.F.type_list_append mt_append (pv 1) (pa_cons (pe_tup (pa_cons (pv 2) (pa_cons pe_int (pa_cons (pv 3) pa_nil)))) pa_nil)))))))
  (pss_cons (ps_set (i := 8) sc__law_regions.nd rfl (Or.inl rfl) (pe_lst pa_nil))
  (pss_cons (ps_for PassesOwn.never rfl (pi_list (pv 1)) (pg_tup rfl (pgs_cons (pg_name (i := 4) sc__law_regions.nd rfl (Or.inl rfl)) (pgs_cons (pg_name (i := 5) sc__law_regions.nd rfl (Or.inl rfl)) (pgs_cons (pg_name (i := 6) sc__law_regions.nd rfl (Or.inl rfl)) pgs_nil)))) (pss_cons (ps_set (i := 9) sc__law_regions.nd rfl (Or.inl rfl) (pe_ifExp (pt_cmpR op_isN (pe_ix ix_tup (pv 6) pe_int (fun _ _ => rfl)) pe_non (nomark _)) pe_non (pe_op op_add (pe_op op_sub (pe_ix ix_tup (pv 6) pe_int (fun _ _ => rfl)) (pv 5)) pe_int)))
  (pss_one (ps_expr (pe_bm PySem.F.plainAttrs_list PySem.F.slot_list_append PySem.F.type_list_append mt_append (pv 8) (pa_cons (pe_tup (pa_cons (pv 4) (pa_cons (pv 5) (pa_cons (pe_ix ix_tup (pv 6) pe_int (fun _ _ => rfl)) (pa_cons (pe_ix ix_tup (pv 6) pe_int (fun _ _ => rfl)) (pa_cons (pe_ix ix_tup (pv 6) pe_int (fun _ _ => rfl)) (pa_cons (pv 9) (pa_cons (pe_callTy call_tuple_of (by rfl) G.b_tuple (by decide +kernel) (pa_cons (pe_callB cr_sortedS (by rfl) G.b_sorted (by decide +kernel) (pa_cons (pe_ix ix_tup (pv 6) pe_int (fun _ _ => rfl)) pa_nil)) pa_nil)) pa_nil)))))))) pa_nil))))))
  (pss_one (ps_ret (pv 8))))))), ?_⟩
    refine ⟨Nat.zero_le _, fun b0 hb0 => ?_⟩
    have s0 := Same.new (o := .lst []) hb0
    refine ⟨_, rfl, d, kvs, intsOf kvs, rfl, .inl (s0 _ _ hd), di.keys, fun ys p hperm hpw hp => ?_⟩
    have ek : ys = keysT T := by
      refine lt_uniq (le_lt hpw (hperm.nodup_iff.mpr di.nodI)) (upTo_lt _ _) fun n => ?_
      rw [hperm.mem_iff, di.memI, (rw0 n).isSome]
      exact ⟨fun h => upTo_mem.mpr ⟨dom n h, h⟩, fun h => (upTo_mem.mp h).2⟩
    subst ek
    have lk : (keysT T).length ≤ 512 := upTo_length _ _
    have s1 := s0.trans (Same.new (o := .lst ((keysT T).map V.int)) hp)
    have hb1 : (upd (upd H b0 (.lst [])) p (.lst ((keysT T).map V.int))) b0 = some (.lst []) := Same.new hp _ _ upd_same
    refine ⟨p, rfl, ⟨_, SqL.of upd_same⟩, for_list (K := K) (a := p) (xs := (keysT T).map V.int) (fun j σ Z => ∃ (b : Addr) (c2 c3 c4 c5 c6 c7 : Option V) (vs : List V), σ = [some (.ref d), some (.ref b), c2, c3, c4, c5, c6, c7, none, none] ∧ Same H Z ∧ H b = none ∧ Z p = some (.lst ((keysT T).map V.int)) ∧ b ≠ p ∧ Z b = some (.lst vs) ∧
        FnR H Z T vs (regsK T ((keysT T).take j)) ∧ Rgn T (regsK T ((keysT T).take j)) ((keysT T).take j))
      ⟨b0, _, _, _, _, _, _, [], rfl, s1, hb0, upd_same, ne_of_none (upd_same : (upd H b0 (.lst [])) b0 = _) hp, hb1, True.intro, ⟨fun q hq => (nomatch hq), fun q hq => (nomatch hq), fun _ => rfl⟩⟩ (fun _ σ Z _ hp => SqL.of (by obtain ⟨_, _, _, _, _, _, _, _, _, _, _, z, _⟩ := hp; exact z)) ?_ ?_⟩
    · rintro j y σ Z hy ⟨b, c2, c3, c4, c5, c6, c7, vs, rfl, sz, hb, zp, nbp, zb, fr, rg⟩
      obtain ⟨n, hn, rfl⟩ : ∃ n, (keysT T)[j]? = some n ∧ V.int n = y := by
        rw [List.getElem?_map] at hy
        cases e : (keysT T)[j]? with
        | none => rw [e] at hy; cases hy
        | some n => rw [e] at hy; exact ⟨n, rfl, Option.some.inj hy⟩
      have hm : n ∈ keysT T := List.mem_of_getElem? hn
      have tk := take_succ hn
      obtain ⟨g, eg⟩ := Option.isSome_iff_exists.mp (take_isSome hm)
      have rel := rw0 n
      rw [eg] at rel
      obtain ⟨rv, erv, wf, hrow⟩ : ∃ rv, f n = some rv ∧ WfP g ∧ RwR H rv g := by
        cases e : f n with
        | none => rw [e] at rel; exact rel.elim
        | some rv => rw [e] at rel; exact ⟨rv, rfl, rel.1, rel.2⟩
      have hval : valV kvs (Sum.inl n) = some rv := by rw [di.val, erv]
      have jl : j < 512 := by
        obtain ⟨h1, _⟩ := List.getElem?_eq_some_iff.mp hn
        omega
      have pw : ((keysT T).take j ++ [n]).Pairwise (· < ·) := by
        rw [← tk]
        exact (upTo_lt 512 _).sublist (List.take_sublist _ _)
      have all : (T (n - 1)).isSome = true → n - 1 ∈ (keysT T).take j ++ [n] := fun h => by
        refine List.mem_append_left _ (lt_take (upTo_lt 512 _) hn ?_ (by omega))
        exact upTo_mem.mpr ⟨dom _ h, h⟩
      have vl : vs.length ≤ j := by
        rw [fr.length]
        have : ∀ (l : List Int) (acc : List (Int × Int)), (l.foldl (stepR T) acc).length ≤ acc.length + l.length := by
          intro l
          induction l with
          | nil => exact fun acc => Nat.le_refl _
          | cons m r ih =>
            intro acc
            refine Nat.le_trans (ih _) ?_
            have : (stepR T acc m).length ≤ acc.length + 1 := by
              unfold stepR
              split
              · split
                · rw [List.length_append, List.length_dropLast]; show acc.length - 1 + 1 ≤ _; omega
                · rw [List.length_append]; exact Nat.le_refl _
              · show 1 ≤ _; omega
            rw [List.length_cons]
            omega
        have h1 := this ((keysT T).take j) []
        have h2 := List.length_take_le j (keysT T)
        have h3 : (regsK T ((keysT T).take j)).length ≤ ([] : List (Int × Int)).length + ((keysT T).take j).length := h1
        simp only [List.length_nil] at h3
        omega
      refine ⟨_, rfl, _, rfl, d, _, rfl, (by rw [← hval]; exact DGet.k (k := Sum.inl n) (sz _ _ hd)), ?_⟩
      -- found.append((page, 1, row))
      dsimp only [gName, List.set, tSeq]
      refine tIfS_nc (b := !vs.isEmpty) (fun σ' H' => ∃ c4 c5 c6 c7, σ' = [some (.ref d), some (.ref b), some (.int n), some rv, c4, c5, c6, c7, none, none] ∧ Same Z H' ∧ (My.cont (T (n - 1)) (T n) = false ∨ regsK T ((keysT T).take j) = [])) (fun Q' q' => ?_) (fun e H1 s1 D' dn dc => ?_) (fun e H1 s1 D' dn dc => ?_) ?_
      · obtain ⟨ds, d1, d2, d3, d4⟩ := fr.dp (K := K) sz
        refine ⟨_, rfl, Nat.zero_le _, fun p2 hp2 => ?_⟩
        have s2 := Same.new (o := .lst []) hp2
        obtain ⟨es, e1, e2, e3, e4⟩ := (fr.keep (ImmK.same s2)).dp (K := K) (sz.trans s2)
        have lay : ∀ l : List PyData, PyData.canLayAll0 l = true → PyData.depthAll l ≤ 5 → SeqAt.shaped (.list l) = true := fun l h1 h2 => shaped_of (by simp [PyData.canLay0, h1]) (by simp [PyData.depth]; omega)
        refine ⟨.list es, .list [], .lst (SqL.of (s2 _ _ zb)) e1, .lst (SqL.of upd_same) .nil, lay _ e3 e4, lay _ rfl (Nat.zero_le _), _, rfl, ?_⟩
        have em : es.isEmpty = vs.isEmpty := by
          cases es <;> cases vs <;> first | rfl | (simp at e2)
        rw [eqv_nil, em]
        exact q' _ s2
      · -- the last run
        have ne : regsK T ((keysT T).take j) ≠ [] := fun z => by
          have l0 := fr.length
          rw [z] at l0
          cases vs with
          | nil => cases e
          | cons _ _ => cases l0
        obtain ⟨ql, el⟩ : ∃ ql, (regsK T ((keysT T).take j)).getLast? = some ql := ⟨_, List.getLast?_eq_some_getLast ne⟩
        have ea : regsK T ((keysT T).take j) = (regsK T ((keysT T).take j)).dropLast ++ [ql] := by
          have := List.dropLast_concat_getLast ne
          rw [List.getLast?_eq_some_getLast ne] at el
          rw [Option.some.inj el] at this
          exact this.symm
        rw [ea] at fr
        obtain ⟨us, v, rfl, fu, t, rl, gl, rfl, ht, egl, wl, hl⟩ := fr.unsnoc
        have hzb := s1 _ _ zb
        have ht1 := s1 _ _ ht
        have hc := rg.cont el pw all egl eg
        obtain ⟨tr, sv, fa, rfl, r1, r2, r3⟩ := hrow.kt (Kt.same (sz.trans s1))
        obtain ⟨tl, sv2, fa2, rfl, l1, l2, l3⟩ := hl.kt (Kt.same (sz.trans s1))
        refine ⟨_, rfl, 1, rfl, b, _, _, _, rfl, rfl, SqL.of hzb, atI_last _ _, t, _, rfl, SqT.of ht1, rfl, _, _, rfl, _, _, rfl, _, _, rfl, rfl, ?_⟩
        dsimp only [tSeq, tAsg]
        refine tOrV_val (b := decide (ixV gl.ix = .non)) (c := match gl.ix with
          | some i => decide (ixV g.ix = .int (i + 1))
          | none => false) (fun Q' q' => ⟨_, rfl, tl, _, _, _, rfl, rfl, SqT.of l1, rfl, q'⟩) (fun ef Q' q' => ?_) ?_
        · cases hix : gl.ix with
          | none => rw [hix] at ef; cases ef
          | some i =>
            rw [hix] at l1 q'
            have sc : scal (ixV g.ix) (.int (i + 1)) = true := by cases g.ix <;> rfl
            exact ⟨_, rfl, tr, _, _, _, rfl, rfl, SqT.of r1, rfl, _, rfl, tl, _, _, _, rfl, rfl, SqT.of l1, rfl, _, _, rfl, rfl, sc, q'⟩
        dsimp only [gName, List.set, tSeq]
        refine tIfS_s (b := decide (ql.1 + ql.2 = n) && (decide (g.r = gl.r ∧ g.sh = gl.sh ∧ g.src = gl.src) && (decide (g.fl = gl.fl) && goes gl g))) (fun Q' q' => ?_) (fun e2 H2 s2 => ?_) (fun e2 H2 s2 => ?_)
        · refine tAnd_s (b := decide (ql.1 + ql.2 = n)) (fun Q2 q2 => ?_) (fun _ H2 s2 Q2 q2 => ?_) q'
          · refine ⟨_, rfl, _, rfl, _, _, rfl, rfl, _, rfl, rfl, _, rfl, ?_⟩
            rw [decI]
            exact q2 _ (Same.refl _)
          · refine tAnd_s (b := decide (g.r = gl.r ∧ g.sh = gl.sh ∧ g.src = gl.src)) (fun Q3 q3 => ?_) (fun _ H3 s3 Q3 q3 => ?_) q2
            · refine ⟨_, rfl, _, rfl, tr, _, rfl, SqT.of (s2 _ _ r1), (show ¬ (HT.sIx 5 0 none = 0 ∧ HT.sIx 5 5 (some 3) = 5) by decide), fun p3 hp3 => ?_⟩
              have s3 := s2.trans (Same.new (o := .tup (cutV [.str g.r, .bl g.sh, sv, ixV g.ix, .ref fa] none (some 3))) hp3)
              refine ⟨_, rfl, _, rfl, tl, _, rfl, SqT.of (s3 _ _ l1), (show ¬ (HT.sIx 5 0 none = 0 ∧ HT.sIx 5 5 (some 3) = 5) by decide), fun p4 hp4 => ?_⟩
              have s4 := s3.trans (Same.new (o := .tup (cutV [.str gl.r, .bl gl.sh, sv2, ixV gl.ix, .ref fa2] none (some 3))) hp4)
              have h3 : (upd (upd H2 p3 (.tup (cutV [.str g.r, .bl g.sh, sv, ixV g.ix, .ref fa] none (some 3)))) p4 (.tup (cutV [.str gl.r, .bl gl.sh, sv2, ixV gl.ix, .ref fa2] none (some 3)))) p3 = some (.tup [.str g.r, .bl g.sh, sv]) := Same.new hp4 _ _ upd_same
              have h4 : (upd (upd H2 p3 (.tup (cutV [.str g.r, .bl g.sh, sv, ixV g.ix, .ref fa] none (some 3)))) p4 (.tup (cutV [.str gl.r, .bl gl.sh, sv2, ixV gl.ix, .ref fa2] none (some 3)))) p4 = some (.tup [.str gl.r, .bl gl.sh, sv2]) := upd_same
              refine ⟨d3 g, d3 gl, .tup (SqT.of h3) (.cons (.str _) (.cons (.bl _) (.cons (dpSrc (r2.kt (Kt.same s4))) .nil))), .tup (SqT.of h4) (.cons (.str _) (.cons (.bl _) (.cons (dpSrc (l2.kt (Kt.same s4))) .nil))), shaped3 wf, shaped3 wl, _, rfl, ?_⟩
              rw [d3_eqv]
              exact q3 _ ((Same.new hp3).trans (Same.new hp4))
            · refine tAnd_s (b := decide (g.fl = gl.fl)) (fun Q4 q4 => ?_) (fun _ H4 s4 Q4 q4 => ?_) q3
              · have s5 := s2.trans s3
                refine ⟨_, rfl, tr, _, _, _, rfl, rfl, SqT.of (s5 _ _ r1), rfl, _, rfl, tl, _, _, _, rfl, rfl, SqT.of (s5 _ _ l1), rfl, dFlL g.fl, dFlL gl.fl, dpFlL (s5 _ _ r3), dpFlL (s5 _ _ l3), shapedFlL _, shapedFlL _, _, rfl, ?_⟩
                rw [dFlL_eqv]
                exact q4 _ (Same.refl _)
              · exact ⟨_, rfl, _, rfl, q4 _ (Same.refl _)⟩
        · -- it goes on
          rw [law_nxt wl wf] at e2
          have hcont : My.cont (T (n - 1)) (T n) = true := hc.trans e2
          have st : stepR T (regsK T ((keysT T).take j)) n = (regsK T ((keysT T).take j)).dropLast ++ [(ql.1, ql.2 + 1)] := by
            unfold stepR
            rw [el]
            simp only
            rw [if_pos hcont]
          rw [Bool.and_eq_true, decide_eq_true_eq, decide_eq_true_eq] at e2
          refine ⟨_, rfl, _, rfl, _, _, rfl, rfl, _, rfl, (by show 3 ≤ sizeLine; decide), fun t2 ht2 => ?_⟩
          have s3 := s2.trans (Same.new (o := .tup [.int ql.1, .int (ql.2 + 1), .ref tr]) ht2)
          have hb3 := s3 _ _ hzb
          have ht3 : (upd H2 t2 (.tup [.int ql.1, .int (ql.2 + 1), .ref tr])) t2 = some (.tup [.int ql.1, .int (ql.2 + 1), .ref tr]) := upd_same
          refine ⟨_, rfl, 1, rfl, b, _, _, us.length, rfl, rfl, hb3, ixN_last us _, ?_⟩
          rw [set_last]
          show D'.ct _ _
          rw [dc]
          have im : ImmK (upd H2 t2 (.tup [.int ql.1, .int (ql.2 + 1), .ref tr])) (upd (upd H2 t2 (.tup [.int ql.1, .int (ql.2 + 1), .ref tr])) b (.lst (us ++ [.ref t2]))) := ImmK.upd hb3 rfl
          have s13 := s1.trans s3
          refine ⟨b, _, _, _, _, _, _, us ++ [.ref t2], rfl, fun b' o ho => ?_, hb, ?_, nbp, upd_same, ?_, ?_⟩
          · rw [upd_ne (ne_of_none ho hb)]
            exact s13 _ _ (sz _ _ ho)
          · rw [upd_ne (Ne.symm nbp)]
            exact s13 _ _ zp
          · rw [tk, regsK_snoc, st]
            refine FnR.snoc ⟨t2, .ref tr, g, rfl, im _ _ ht3 rfl, ?_, wf, hrow⟩ (fu.keep ((ImmK.same s13).trans im))
            have : ql.1 + (ql.2 + 1) - 1 = n := by omega
            show T (ql.1 + (ql.2 + 1) - 1) = some g
            rw [this, eg]
          · rw [tk, regsK_snoc]
            exact rg.step pw all eg
        · rw [law_nxt wl wf] at e2
          exact dn _ _ ⟨_, _, _, _, rfl, s1.trans s2, .inl (hc.trans e2)⟩
      · refine dn _ _ ⟨_, _, _, _, rfl, s1, .inr ?_⟩
        have l0 := fr.length
        cases vs with
        | nil => exact List.length_eq_zero_iff.mp l0.symm
        | cons _ _ => cases e
      · rintro _ H1 ⟨c4', c5', c6', c7', rfl, s1, hne⟩
        have st : stepR T (regsK T ((keysT T).take j)) n = regsK T ((keysT T).take j) ++ [(n, 1)] := by
          unfold stepR
          rcases hne with h | h
          · cases el : (regsK T ((keysT T).take j)).getLast? with
            | none => rw [List.getLast?_eq_none_iff.mp el]; rfl
            | some ql => simp only; rw [if_neg (by rw [h]; exact Bool.false_ne_true)]
          · rw [h]; rfl
        have hb1 := s1 _ _ zb
        refine ⟨_, rfl, .inl ⟨rfl, _, SqL.of hb1⟩, _, rfl, _, rfl, (by show 3 ≤ sizeLine; decide), fun t2 ht2 => ?_⟩
        have s2 := s1.trans (Same.new (o := .tup [.int n, .int 1, rv]) ht2)
        have hb2 := s2 _ _ zb
        have ht3 : (upd H1 t2 (.tup [.int n, .int 1, rv])) t2 = some (.tup [.int n, .int 1, rv]) := upd_same
        have im : ImmK (upd H1 t2 (.tup [.int n, .int 1, rv])) (upd (upd H1 t2 (.tup [.int n, .int 1, rv])) b (.lst (vs ++ [.ref t2]))) := ImmK.upd hb2 rfl
        refine ⟨b, _, _, rfl, rfl, hb2, Nat.lt_of_le_of_lt (by omega : vs.length ≤ 10000) (by decide), ?_⟩
        refine ⟨b, _, _, _, _, _, _, vs ++ [.ref t2], rfl, fun b' o ho => ?_, hb, ?_, nbp, upd_same, ?_, ?_⟩
        · rw [upd_ne (ne_of_none ho hb)]
          exact s2 _ _ (sz _ _ ho)
        · rw [upd_ne (Ne.symm nbp)]
          exact s2 _ _ zp
        · rw [tk, regsK_snoc, st]
          refine FnR.snoc ⟨t2, rv, g, rfl, im _ _ ht3 rfl, ?_, wf, hrow⟩ (fr.keep ((ImmK.same s2).trans im))
          have : n + 1 - 1 = n := by omega
          show T (n + 1 - 1) = some g
          rw [this, eg]
        · rw [tk, regsK_snoc]
          exact rg.step pw all eg
    · rintro σ Z ⟨b, c2, c3, c4, c5, c6, c7, vs, rfl, sz, hb, zp, nbp, zb, fr, rg⟩
      have el : (keysT T).take ((keysT T).map V.int).length = keysT T := by rw [List.length_map, List.take_length]
      rw [el] at fr rg
      clear hperm hpw hp s1 hb1 s0 hb0
      refine ⟨Nat.zero_le _, fun R hR => ?_⟩
      have sR := Same.new (o := .lst []) hR
      have nbR : b ≠ R := ne_of_none zb hR
      have HR : H R = none := Same.free sz hR
      have lr : (regsK T (keysT T)).length ≤ 512 := by
        have : ∀ (l : List Int) (acc : List (Int × Int)), (l.foldl (stepR T) acc).length ≤ acc.length + l.length := by
          intro l
          induction l with
          | nil => exact fun acc => Nat.le_refl _
          | cons m r ih =>
            intro acc
            refine Nat.le_trans (ih _) ?_
            have : (stepR T acc m).length ≤ acc.length + 1 := by
              unfold stepR
              split
              · split
                · rw [List.length_append, List.length_dropLast]; show acc.length - 1 + 1 ≤ _; omega
                · rw [List.length_append]; exact Nat.le_refl _
              · show 1 ≤ _; omega
            rw [List.length_cons]
            omega
        have h1 := this (keysT T) []
        have h3 : (regsK T (keysT T)).length ≤ ([] : List (Int × Int)).length + (keysT T).length := h1
        simp only [List.length_nil] at h3
        omega
      have ev : (regL T).length = (regsI T).length := by
        unfold regL
        have : ∀ l : List (Int × Int), (∀ q ∈ l, (T q.1).isSome = true) → (withP T l).length = l.length := by
          intro l
          induction l with
          | nil => intro _; rfl
          | cons q r ih =>
            intro h
            obtain ⟨g, eg⟩ := Option.isSome_iff_exists.mp (h q List.mem_cons_self)
            unfold withP at ih ⊢
            rw [List.filterMap_cons, eg]
            exact congrArg (· + 1) (ih fun z hz => h z (List.mem_cons_of_mem _ hz))
        exact this _ (regsK_start T (keysT T) fun n hn => take_isSome hn)
      have fr2 := fr.keep (ImmK.same sR)
      have zbR := sR _ _ zb
      refine ⟨_, rfl, b, rfl, ⟨_, SqL.of zbR⟩, for_list (K := K) (a := b) (xs := vs) (fun j σ Y => ∃ (c4 c5 c6 c9 : Option V) (ws : List V), σ = [some (.ref d), some (.ref b), c2, c3, c4, c5, c6, c7, some (.ref R), c9] ∧ Same Z Y ∧ Y R = some (.lst ws) ∧ RowsR Y ws (withP T ((regsK T (keysT T)).take j)))
        ⟨_, _, _, _, [], rfl, sR, upd_same, True.intro⟩ (fun _ σ Y _ hp => SqL.of (by obtain ⟨_, _, _, _, _, _, h, _⟩ := hp; exact h _ _ zb)) ?_ ?_⟩
      · rintro j y σ Y hy ⟨c4', c5', c6', c9', ws, rfl, sY, yR, rr⟩
        obtain ⟨q, eq, t, rv, gl, rfl, ht, egl, wl, hl⟩ := fr.get hy
        have hq := List.mem_of_getElem? eq
        obtain ⟨q2, g0, eg0, hk⟩ := rg.run q hq
        have ea : gl = addIx g0 (q.2 - 1) := by
          have := hk (q.2 - 1) (by omega) (by omega)
          have e : q.1 + (q.2 - 1) = q.1 + q.2 - 1 := by omega
          rw [e, egl] at this
          exact Option.some.inj this
        have sHY := sz.trans sY
        have ht1 := sY _ _ ht
        obtain ⟨tl, sv, fa, rfl, l1, l2, l3⟩ := hl.kt (Kt.same sHY)
        have lw : ws.length ≤ j := by
          have h1 := rr.length
          have h2 := withP_length T ((regsK T (keysT T)).take j)
          have h3 := List.length_take_le j (regsK T (keysT T))
          omega
        have jl : j < 512 := by
          obtain ⟨h1, _⟩ := List.getElem?_eq_some_iff.mp eq
          omega
        refine ⟨t, _, rfl, SqT.of ht1, rfl, _, _, rfl, _, _, rfl, _, _, rfl, rfl, ?_⟩
        dsimp only [tSeq, tAsg]
        refine tIf_val (v := ixV g0.ix) (b := decide (ixV gl.ix = .non)) (fun Q' q' => ⟨_, rfl, tl, _, _, _, rfl, rfl, SqT.of l1, rfl, rfl, _, rfl, q'⟩) (fun ef Q' q' => ?_) (fun ef Q' q' => ?_) ?_
        · have e0 : g0.ix = none := by
            rw [ea] at ef
            unfold addIx at ef
            cases e : g0.ix with
            | none => rfl
            | some i => rw [e] at ef; cases ef
          rw [e0] at q'
          exact q'
        · obtain ⟨i, ei⟩ : ∃ i, g0.ix = some i := by
            cases e : g0.ix with
            | some i => exact ⟨i, rfl⟩
            | none =>
              rw [ea] at ef
              unfold addIx at ef
              rw [e] at ef
              cases ef
          have egx : gl.ix = some (i + (q.2 - 1)) := by
            rw [ea]
            unfold addIx
            rw [ei]
            rfl
          rw [egx] at l1
          rw [ei] at q'
          refine ⟨_, rfl, tl, _, _, _, rfl, rfl, SqT.of l1, rfl, _, rfl, _, _, rfl, rfl, _, _, rfl, rfl, ?_⟩
          have : i + (q.2 - 1) - q.2 + 1 = i := by omega
          show Q' (.int (i + (q.2 - 1) - q.2 + 1)) Y
          rw [this]
          exact q'
        dsimp only [gName, List.set]
        have eqs : gl.r = g0.r ∧ gl.sh = g0.sh ∧ gl.src = g0.src ∧ gl.fl = g0.fl := by rw [ea]; exact ⟨rfl, rfl, rfl, rfl⟩
        obtain ⟨e1, e2, e3, e4⟩ := eqs
        refine ⟨_, rfl, .inl ⟨rfl, _, SqL.of yR⟩, _, rfl, _, rfl, _, rfl, tl, _, _, _, rfl, rfl, SqT.of l1, rfl, _, rfl, tl, _, _, _, rfl, rfl, SqT.of l1, rfl, _, rfl, tl, _, _, _, rfl, rfl, SqT.of l1, rfl, _, rfl, ?_⟩
        refine ⟨_, rfl, tl, _, _, _, rfl, rfl, SqT.of l1, rfl, fa, flL gl.fl, rfl, SqL.of l3, ?_, fun ys' p2 hpm hst hp2 => ?_⟩
        · obtain ⟨a1, a2, a3⟩ := gl.fl
          cases a1 <;> cases a2 <;> cases a3 <;> decide
        have ey := sorted_fl gl.fl ys' hpm hst
        subst ey
        have sp2 := Same.new (o := .lst ((flL gl.fl).map V.str)) hp2
        refine ⟨p2, _, rfl, .inl ⟨SqL.of upd_same, fun tf htf => ?_⟩⟩
        have sp3 := sp2.trans (Same.new (o := .tup ((flL gl.fl).map V.str)) htf)
        have htf1 : (upd (upd Y p2 (.lst ((flL gl.fl).map V.str))) tf (.tup ((flL gl.fl).map V.str))) tf = some (.tup ((flL gl.fl).map V.str)) := upd_same
        refine ⟨(by show 7 ≤ sizeLine; decide), fun t2 ht2 => ?_⟩
        generalize hY3 : upd (upd Y p2 (.lst ((flL gl.fl).map V.str))) tf (.tup ((flL gl.fl).map V.str)) = Y3 at *
        have s4 := Same.new (o := .tup [.int q.1, .int q.2, .str gl.r, .bl gl.sh, sv, ixV g0.ix, .ref tf]) ht2
        have s5 := sp3.trans s4
        have yR2 := s5 _ _ yR
        refine ⟨R, _, _, rfl, rfl, yR2, Nat.lt_of_le_of_lt (by omega : ws.length ≤ 10000) (by decide), ?_⟩
        have ht3 : (upd Y3 t2 (.tup [.int q.1, .int q.2, .str gl.r, .bl gl.sh, sv, ixV g0.ix, .ref tf])) t2 = some (.tup [.int q.1, .int q.2, .str gl.r, .bl gl.sh, sv, ixV g0.ix, .ref tf]) := upd_same
        have htf2 := s4 _ _ htf1
        generalize hY4 : upd Y3 t2 (.tup [.int q.1, .int q.2, .str gl.r, .bl gl.sh, sv, ixV g0.ix, .ref tf]) = Y4 at *
        have im : ImmK Y4 (upd Y4 R (.lst (ws ++ [.ref t2]))) := ImmK.upd yR2 rfl
        refine ⟨_, _, _, _, ws ++ [.ref t2], rfl, fun b' o ho => ?_, upd_same, ?_⟩
        · rw [upd_ne (ne_of_none ho hR)]
          exact s5 _ _ (sY _ _ ho)
        · rw [take_succ eq, withP_snoc _ _ _ eg0]
          refine RowsR.snoc ⟨t2, sv, tf, rfl, im _ _ ?_ rfl, ?_, im _ _ ?_ rfl⟩ (rr.keep ((ImmK.same s5).trans im))
          · rw [ht3, e1, e2]
          · rw [← e3]
            exact (l2.kt (Kt.same s5)).keep im
          · rw [htf2, e4]
      · rintro σ Y ⟨c4', c5', c6', c9', ws, rfl, sY, yR, rr⟩
        have : (regsK T (keysT T)).take vs.length = regsK T (keysT T) := by rw [fr.length, List.take_length]
        rw [this] at rr
        exact ⟨_, rfl, k R ws Y (sz.trans sY) HR yR rr⟩
end
end My
set_option Elab.async false
set_option linter.all false
set_option maxRecDepth 100000
set_option maxHeartbeats 4000000
namespace My
open PySem L2
local macro_rules | `(tactic| walk_at "ds") => `(tactic| dsimp only [tSeq, tIfS, tTest, tB, tAnd, tOr, tNot, tAndV, tOrV, tNotV, tIf, tIsN, tNotN, tOp, tUn, tChain, rI, rI0, rU, tC, tCB, tCons, tNil, tAsg, gName, gSub, tRet, tRetN, tNext, tDrop, tLst, tTup, rIxL, rIxT, rSetL, tVar, tFld, tCall, tDGet, tDIn, tDNotIn, tNever, L2.start, List.map, List.replicate, List.length, List.append, List.cons_append, List.nil_append, List.set, Nat.sub])
local macro_rules | `(tactic| walk_at "hp") => `(tactic| first | assumption | exact upd_same | (refine Eq.trans (upd_ne (by first | assumption | (apply Ne.symm; assumption))) ?_; walk_at "hp"))
local macro_rules | `(tactic| walk_at "sd") => `(tactic| first
  | (show (_ : Int) ≠ 0; omega)
  | (refine (show CDivN _ _ from ⟨?_, ?_⟩) <;> omega)
  | (show CPow _ _; refine ⟨by omega, by omega, by omega⟩)
  | (show CMul _ _; exact Or.inl ⟨by omega, by omega⟩)
  | (show CMul _ _; exact Or.inr ⟨by omega, by omega⟩))
local macro_rules | `(tactic| walk_at "st") => `(tactic| first
  | refine ⟨_, rfl, ?_⟩
  | refine ⟨_, _, rfl, rfl, (by walk_at "sd"), ?_⟩
  | refine ⟨_, _, rfl, rfl, ?_⟩
  | refine ⟨_, _, _, _, rfl, rfl, SqL.of (by walk_at "hp"), rfl, ?_⟩
  | refine ⟨_, _, _, _, rfl, rfl, (by walk_at "hp"), rfl, ?_⟩
  | refine .inl ⟨_, rfl, ?_⟩
  | refine ⟨_, _, _, _, _, rfl, (by walk_at "hp"), (by assumption), (by assumption), rfl, ?_⟩
  | refine ⟨_, _, rfl, .inl (SqL.of (by walk_at "hp")), ?_⟩)
local macro_rules | `(tactic| walk_at "go") => `(tactic| repeat (first | walk_at "st" | (walk_at "ds"; walk_at "st")))
local macro_rules | `(tactic| walk_at "ni") => `(tactic| dsimp (config := { proj := false }) only [tNil, List.cons_append, List.nil_append])
section
variable {P : Program} {w : World} {K : PySem.W.Frag} {mg : Str → Option Value} {base : Heap} {A : Adr}
theorem init_binds (G : Txt K mg A) : ∃ ds, Vals (kw_System_init.map (·.2)) ds ∧ L2.Binds K A.fd_System_init p_System_init ds := by
  refine G.f_System_init.binds0 1 (by decide) rfl fun D doc pm an cdv ct us ks h1 h2 => ?_
  match us, h1, ks, h2 with
  | [u], _, [a, b, c], _ =>
    exact ⟨_, _, _, _, _, _, rfl, rfl, _, _, _, _, _, _, rfl, rfl, _, _, _, _, _, _, rfl, rfl, rfl⟩
/-- map_pages with all its keywords -/
theorem map_k5 (G : Txt K mg A) : ∃ mv : List Value, KBn K A.fd_map_pages p_map_pages 3 ["rights", "shared", "source", "index", "at"] (fun us ws => us ++ ws) (fun vs zs => vs ++ zs) := by
  refine G.f_map_pages.kbinds0 3 ["rights", "shared", "source", "index", "at"] [] (fun us mv ws => us ++ ws) (by decide) (by simp) (fun r1 r2 r3 => r1.append r3) fun D doc pm an cdv ct us mv ws h1 h2 h3 => ?_
  match us, h1, mv, h2, ws, h3 with
  | [u1, u2, u3], _, [], _, [a, b, c, d, e], _ => exact rfl
theorem flag_k1 (G : Txt K mg A) : ∃ mv : List Value, KBn K A.fd_flag p_flag 4 ["merge"] (fun us ws => us ++ (ws ++ mv)) (fun vs zs => vs ++ (zs ++ [V.non, V.non])) := by
  refine G.f_flag.kbinds0 4 ["merge"] [("stay", .non), ("wipe", .non)] (fun us mv ws => us ++ (ws ++ mv)) (by decide) (by simp) (fun r1 r2 r3 => r1.append (r3.append r2)) fun D doc pm an cdv ct us mv ws h1 h2 h3 => ?_
  match us, h1, mv, h2, ws, h3 with
  | [u1, u2, u3, u4], _, [a, b], _, [c], _ => exact ⟨_, _, _, _, _, _, rfl, rfl, _, _, _, _, _, _, rfl, rfl, rfl⟩
theorem flag_k2 (G : Txt K mg A) : ∃ mv : List Value, KBn K A.fd_flag p_flag 4 ["stay", "merge"] (fun us ws => us ++ (ws.drop 1 ++ (ws.take 1 ++ mv))) (fun vs zs => vs ++ (zs.drop 1 ++ (zs.take 1 ++ [V.non]))) := by
  refine G.f_flag.kbinds0 4 ["stay", "merge"] [("wipe", .non)] (fun us mv ws => us ++ (ws.drop 1 ++ (ws.take 1 ++ mv))) (by decide) (by simp) (fun r1 r2 r3 => r1.append ((r3.drop 1).append ((r3.take 1).append r2))) fun D doc pm an cdv ct us mv ws h1 h2 h3 => ?_
  match us, h1, mv, h2, ws, h3 with
  | [u1, u2, u3, u4], _, [a], _, [b, c], _ => exact ⟨_, _, _, _, _, _, rfl, rfl, rfl⟩
theorem flag_k3 (G : Txt K mg A) : ∃ mv : List Value, KBn K A.fd_flag p_flag 4 ["wipe"] (fun us ws => us ++ (mv ++ ws)) (fun vs zs => vs ++ ([V.non, V.non] ++ zs)) := by
  refine G.f_flag.kbinds0 4 ["wipe"] [("merge", .non), ("stay", .non)] (fun us mv ws => us ++ (mv ++ ws)) (by decide) (by simp) (fun r1 r2 r3 => r1.append (r2.append r3)) fun D doc pm an cdv ct us mv ws h1 h2 h3 => ?_
  match us, h1, mv, h2, ws, h3 with
  | [u1, u2, u3, u4], _, [a, b], _, [c], _ => exact ⟨_, _, _, _, _, _, rfl, rfl, _, _, _, _, _, _, rfl, rfl, rfl⟩
end
abbrev Mo := Int → Option Tb
def SpO (H : Hp) (ρ : Addr → Option Int) (i : Int) : Option V → Option Tb → Prop
  | none, none => True
  | some v, some L => ∃ d, v = .ref d ∧ ρ d = some i ∧ SpR H d L
  | _, _ => False
def SpsV (H : Hp) (ρ : Addr → Option Int) (kvs : List (Key × V)) (M : Mo) : Prop := ∃ f, DI kvs f ∧ ∀ i, SpO H ρ i (f i) (M i)
def stK (o p : Int) : List (Key × V) := [(Sum.inr "objects", .int o), (Sum.inr "last", .int p)]
theorem st_ne : (Sum.inr ("objects" : Str) : Key) ≠ Sum.inr ("last" : Str) := fun z => absurd (Sum.inr.inj z) (by decide +kernel)
theorem st_obj (o p : Int) : valV (stK o p) (Sum.inr "objects") = some (.int o) := valV_pos rfl
theorem st_last (o p : Int) : valV (stK o p) (Sum.inr "last") = some (.int p) := by
  unfold stK
  rw [valV_neg st_ne, valV_pos rfl]
theorem st_putO (o p o' : Int) : putK (stK o p) (Sum.inr "objects") (.int o') = stK o' p := by
  unfold putK stK
  rw [if_pos (by simp)]
  simp only [List.map_cons, List.map_nil]
  rw [if_pos trivial, if_neg (Ne.symm st_ne)]
theorem st_putP (o p p' : Int) : putK (stK o p) (Sum.inr "last") (.int p') = stK o p' := by
  unfold putK stK
  rw [if_pos (by simp)]
  simp only [List.map_cons, List.map_nil]
  rw [if_neg st_ne, if_pos trivial]
structure Wo where
  a : Addr
  x : Addr
  sp : Addr
  st : Addr
  q : Addr
  wh : Wh
  Ls : List V
structure Lw (A : Adr) (W : Wo) (H : Hp) (S : Sys) (τ : Tm) (ρ : Addr → Option Int) (M : Mo) (kvs : List (Key × V)) (o p : Int) (B m : Nat) : Prop where
  wl : WellAt H W.a B
  sy : Sr A H W.x W.wh S τ
  hs : H W.sp = some (.dK kvs)
  sv : SpsV H ρ kvs M
  ta : τ W.a = none
  ts : τ W.sp = none
  tr : ∀ b i, ρ b = some i → τ b = none ∧ ∃ z, H b = some (.dK z)
  rs : ρ W.sp = none
  few : 1 ≤ kvs.length ∧ kvs.length ≤ 4
  hq : H W.q = some (.lst W.Ls)
  tq : τ W.q = none
  qa : W.q ≠ W.a
  hst : H W.st = some (.dK (stK o p))
  tst : τ W.st = none
  rst : ρ W.st = none
  nst : W.st ≠ W.sp
  bp : S.p ≤ 1 + m
  bo : S.o ≤ m
  fs : S.fls "a" = true ∧ S.fls "bb" = true
section
variable {A : Adr} {W : Wo} {H H' : Hp} {S S' : Sys} {τ τ' : Tm} {ρ : Addr → Option Int} {M : Mo} {kvs : List (Key × V)} {o p : Int} {B B' m m' : Nat}
theorem SpO.keep {ρ' : Addr → Option Int} {i : Int} {v : Option V} {L : Option Tb} (h : SpO H ρ i v L) (k : Kt H H') (e : ∀ d, ρ d = some i → (∃ z, H d = some (.dK z)) → H' d = H d ∧ ρ' d = ρ d) : SpO H' ρ' i v L := by
  match v, L, h with
  | none, none, _ => exact True.intro
  | some v, some L, h =>
    obtain ⟨d, e1, e2, e3⟩ := h
    obtain ⟨kv, f, h1, h2⟩ := id e3
    obtain ⟨z1, z2⟩ := e d e2 ⟨_, h1⟩
    exact ⟨d, e1, z2.trans e2, e3.kt k fun o y => z1.trans y⟩
theorem Lw.keep (h : Lw A W H S τ ρ M kvs o p B m) (w' : WellAt H' W.a B') (e : But W.a H H') : Lw A W H' S τ ρ M kvs o p B' m := by
  obtain ⟨xs, hx⟩ := h.wl.lst
  have kt : Kt H H' := Kt.draw h.wl e
  have ex : ∀ {b : Addr} {z : List (Key × V)}, H b = some (.dK z) → H' b = some (.dK z) := fun {b z} y => e b _ (ne_of y hx (by intro u; cases u)) y
  refine ⟨w', h.sy.keep fun b o y c => ?_, ex h.hs, ?_, h.ta, h.ts, fun b i y => ?_, h.rs, h.few, e _ _ h.qa h.hq, h.tq, h.qa, ex h.hst, h.tst, h.rst, h.nst, h.bp, h.bo, h.fs⟩
  · refine e b o (fun z => ?_) y
    rcases c with c | c
    · exact c (by rw [z]; exact h.ta)
    · rw [z, hx] at y; cases y; cases c
  · obtain ⟨f, h1, h2⟩ := h.sv
    exact ⟨f, h1, fun i => (h2 i).keep kt fun d _ ⟨z, y⟩ => ⟨(ex y).trans y.symm, rfl⟩⟩
  · obtain ⟨y1, z, y2⟩ := h.tr b i y
    exact ⟨y1, z, ex y2⟩
theorem Lw.same (h : Lw A W H S τ ρ M kvs o p B m) (s : Same H H') : Lw A W H' S τ ρ M kvs o p B m := by
  obtain ⟨xs, hx⟩ := h.wl.lst
  exact h.keep (h.wl.same ((s _ _ hx).trans hx.symm)) fun b o _ e => s b o e
theorem Lw.mono (h : Lw A W H S τ ρ M kvs o p B m) (e : B ≤ B') (e2 : B' ≤ 1000000) : Lw A W H S τ ρ M kvs o p B' m := h.keep (h.wl.mono e (by omega)) fun _ _ _ e => e
/-- a step of the program -/
theorem Lw.go (h : Lw A W H S τ ρ M kvs o p B m) (g : Go τ H τ' H') (sy' : Sr A H' W.x W.wh S' τ') (hp : S'.p ≤ 1 + m') (ho : S'.o ≤ m') (hf : S'.fls = S.fls) : Lw A W H' S' τ' ρ M kvs o p B m' := by
  obtain ⟨xs, hx⟩ := h.wl.lst
  have tn : ∀ {b : Addr} {o : HO}, τ b = none → H b = some o → τ' b = none := fun {b o} t e => by
    rcases g.ex b with z | ⟨_, z⟩
    · exact z.trans t
    · rw [e] at z; cases z
  refine ⟨h.wl.same ((g.fr _ _ h.ta hx).trans hx.symm), sy', g.fr _ _ h.ts h.hs, ?_, tn h.ta hx, tn h.ts h.hs, fun b i y => ?_, h.rs, h.few, g.fr _ _ h.tq h.hq, tn h.tq h.hq, h.qa, g.fr _ _ h.tst h.hst, tn h.tst h.hst, h.rst, h.nst, hp, ho, by rw [hf]; exact h.fs⟩
  · obtain ⟨f, h1, h2⟩ := h.sv
    exact ⟨f, h1, fun i => (h2 i).keep (Kt.go h.sy g) fun d y ⟨z, e⟩ => ⟨(g.fr _ _ (h.tr d i y).1 e).trans e.symm, rfl⟩⟩
  · obtain ⟨y1, z, y2⟩ := h.tr b i y
    exact ⟨tn y1 y2, z, g.fr _ _ y1 y2⟩
def setM (M : Mo) (i : Int) (L : Option Tb) : Mo := fun j => if j = i then L else M j
theorem Lw.kp (h : Lw A W H S τ ρ M kvs o p B m) {d : Addr} {z z' : List (Key × V)} (hd : H d = some (.dK z)) (td : τ d = none) : Sr A (upd H d (.dK z')) W.x W.wh S τ := h.sy.keep fun b o y c => by
  have n : b ≠ d := fun e => by
    rcases c with c | c
    · exact c (by rw [e]; exact td)
    · rw [e, hd] at y; cases y; cases c
  rw [upd_ne n]
  exact y
/-- the dict of a process -/
theorem Lw.space (h : Lw A W H S τ ρ M kvs o p B m) {i : Int} {L : Tb} (e : M i = some L) : ∃ d, valV kvs (Sum.inl i) = some (.ref d) ∧ ρ d = some i ∧ SpR H d L := by
  obtain ⟨f, h1, h2⟩ := h.sv
  have z := h2 i
  rw [e] at z
  cases ef : f i with
  | none => rw [ef] at z; exact z.elim
  | some v =>
    rw [ef] at z
    obtain ⟨d, e1, e2, e3⟩ := z
    exact ⟨d, by rw [h1.val, ef, e1], e2, e3⟩
/-- one account changes -/
theorem Lw.put (h : Lw A W H S τ ρ M kvs o p B m) {i : Int} {d : Addr} {L L' : Tb} {z' : List (Key × V)} (e : M i = some L) (hd : ρ d = some i) (hv : valV kvs (Sum.inl i) = some (.ref d)) (r : SpR (upd H d (.dK z')) d L') :
    Lw A W (upd H d (.dK z')) S τ ρ (setM M i (some L')) kvs o p B m := by
  obtain ⟨td, z, hz⟩ := h.tr d i hd
  obtain ⟨xs, hx⟩ := h.wl.lst
  have na : W.a ≠ d := ne_of hx hz (by intro u; cases u)
  have nq : W.q ≠ d := ne_of h.hq hz (by intro u; cases u)
  have ns : W.sp ≠ d := fun y => by rw [← y, h.rs] at hd; cases hd
  have nt : W.st ≠ d := fun y => by rw [← y, h.rst] at hd; cases hd
  refine ⟨h.wl.same (upd_ne na), h.kp hz td, by rw [upd_ne ns]; exact h.hs, ?_, h.ta, h.ts, fun b j y => ?_, h.rs, h.few, by rw [upd_ne nq]; exact h.hq, h.tq, h.qa, by rw [upd_ne nt]; exact h.hst, h.tst, h.rst, h.nst, h.bp, h.bo, h.fs⟩
  · obtain ⟨f, h1, h2⟩ := h.sv
    refine ⟨f, h1, fun j => ?_⟩
    by_cases ej : j = i
    · subst ej
      unfold setM
      rw [if_pos rfl, ← h1.val, hv]
      exact ⟨d, rfl, hd, r⟩
    · unfold setM
      rw [if_neg ej]
      refine (h2 j).keep (Kt.upd hz rfl) fun b y _ => ⟨upd_ne fun u => ?_, rfl⟩
      rw [u, hd] at y
      exact ej (Option.some.inj y).symm
  · obtain ⟨y1, y2⟩ := h.tr b j y
    by_cases eb : b = d
    · exact ⟨y1, z', by rw [eb, upd_same]⟩
    · exact ⟨y1, by rw [upd_ne eb]; exact y2⟩
/-- a new account -/
theorem Lw.putNew (h : Lw A W H S τ ρ M kvs o p B m) {i : Int} {d : Addr} {L' : Tb} (nr : ρ d = none) (td : τ d = none) (ns : d ≠ W.sp) (nt : d ≠ W.st) (r : SpR H d L') (few : (putK kvs (Sum.inl i) (.ref d)).length ≤ 4) :
    Lw A W (upd H W.sp (.dK (putK kvs (Sum.inl i) (.ref d)))) S τ (fun b => if b = d then some i else ρ b) (setM M i (some L')) (putK kvs (Sum.inl i) (.ref d)) o p B m := by
  obtain ⟨xs, hx⟩ := h.wl.lst
  have na : W.a ≠ W.sp := ne_of hx h.hs (by intro u; cases u)
  have nq : W.q ≠ W.sp := ne_of h.hq h.hs (by intro u; cases u)
  obtain ⟨z0, f0, hd0, _⟩ := id r
  refine ⟨h.wl.same (upd_ne na), h.kp h.hs h.ts, upd_same, ?_, h.ta, h.ts, fun b j y => ?_, by simp only [if_neg (Ne.symm ns)]; exact h.rs, ⟨?_, few⟩, by rw [upd_ne nq]; exact h.hq, h.tq, h.qa, by rw [upd_ne h.nst]; exact h.hst, h.tst, by simp only [if_neg (Ne.symm nt)]; exact h.rst, h.nst, h.bp, h.bo, h.fs⟩
  · obtain ⟨f, h1, h2⟩ := h.sv
    refine ⟨_, h1.put i (.ref d), fun j => ?_⟩
    by_cases ej : j = i
    · subst ej
      unfold setM
      simp only [if_pos]
      exact ⟨d, rfl, if_pos rfl, r.kt (Kt.upd h.hs rfl) fun o y => by rw [upd_ne ns]; exact y⟩
    · unfold setM
      simp only [if_neg ej]
      refine (h2 j).keep (Kt.upd h.hs rfl) fun b y _ => ⟨upd_ne fun u => ?_, if_neg fun u => ?_⟩
      · rw [u, h.rs] at y; cases y
      · rw [u, nr] at y; cases y
  · by_cases eb : b = d
    · exact ⟨by rw [eb]; exact td, z0, by rw [eb, upd_ne ns]; exact hd0⟩
    · rw [if_neg eb] at y
      obtain ⟨y1, y2⟩ := h.tr b j y
      exact ⟨y1, by rw [upd_ne fun u => by rw [u, h.rs] at y; cases y]; exact y2⟩
  · unfold putK
    split
    · rw [List.length_map]; exact h.few.1
    · rw [List.length_append]; exact Nat.le_add_left _ _
/-- an account is closed -/
theorem Lw.drop (h : Lw A W H S τ ρ M kvs o p B m) (i : Int) (two : 1 < kvs.length) : Lw A W (upd H W.sp (.dK (dropK kvs (Sum.inl i)))) S τ ρ (setM M i none) (dropK kvs (Sum.inl i)) o p B m := by
  obtain ⟨xs, hx⟩ := h.wl.lst
  have na : W.a ≠ W.sp := ne_of hx h.hs (by intro u; cases u)
  have nq : W.q ≠ W.sp := ne_of h.hq h.hs (by intro u; cases u)
  obtain ⟨f, h1, h2⟩ := h.sv
  refine ⟨h.wl.same (upd_ne na), h.kp h.hs h.ts, upd_same, ?_, h.ta, h.ts, fun b j y => ?_, h.rs, ⟨?_, Nat.le_trans (List.length_filter_le _ _) h.few.2⟩, by rw [upd_ne nq]; exact h.hq, h.tq, h.qa, by rw [upd_ne h.nst]; exact h.hst, h.tst, h.rst, h.nst, h.bp, h.bo, h.fs⟩
  · refine ⟨_, h1.drop i, fun j => ?_⟩
    by_cases ej : j = i
    · subst ej
      unfold setM
      simp only [if_pos]
      exact True.intro
    · unfold setM
      simp only [if_neg ej]
      refine (h2 j).keep (Kt.upd h.hs rfl) fun b y _ => ⟨upd_ne fun u => ?_, rfl⟩
      rw [u, h.rs] at y; cases y
  · obtain ⟨y1, y2⟩ := h.tr b j y
    exact ⟨y1, by rw [upd_ne fun u => by rw [u, h.rs] at y; cases y]; exact y2⟩
  · have : ∀ l : List (Key × V), (l.map (·.1)).Nodup → l.length ≤ (dropK l (Sum.inl i)).length + 1 := by
      intro l
      induction l with
      | nil => intro _; exact Nat.zero_le _
      | cons q r ih =>
        intro nd
        rw [List.map_cons, List.nodup_cons] at nd
        unfold dropK at ih ⊢
        rw [List.filter_cons]
        by_cases eq : q.1 = Sum.inl i
        · rw [if_neg (by simp [eq])]
          have e : List.filter (fun kv => decide (kv.1 ≠ Sum.inl i)) r = r := List.filter_eq_self.mpr fun y hy => by
            have : y.1 ≠ Sum.inl i := fun z => nd.1 (List.mem_map.mpr ⟨y, hy, z.trans eq.symm⟩)
            simpa using this
          rw [e]
          exact Nat.le_refl _
        · rw [if_pos (by simp [eq])]
          exact Nat.succ_le_succ (ih nd.2)
    have := this kvs h1.nod
    omega
/-- the state's numbers -/
theorem Lw.putSt (h : Lw A W H S τ ρ M kvs o p B m) {o' p' : Int} : Lw A W (upd H W.st (.dK (stK o' p'))) S τ ρ M kvs o' p' B m := by
  obtain ⟨xs, hx⟩ := h.wl.lst
  have na : W.a ≠ W.st := ne_of hx h.hst (by intro u; cases u)
  have nq : W.q ≠ W.st := ne_of h.hq h.hst (by intro u; cases u)
  refine ⟨h.wl.same (upd_ne na), h.kp h.hst h.tst, by rw [upd_ne (Ne.symm h.nst)]; exact h.hs, ?_, h.ta, h.ts, fun b j y => ?_, h.rs, h.few, by rw [upd_ne nq]; exact h.hq, h.tq, h.qa, upd_same, h.tst, h.rst, h.nst, h.bp, h.bo, h.fs⟩
  · obtain ⟨f, h1, h2⟩ := h.sv
    refine ⟨f, h1, fun j => (h2 j).keep (Kt.upd h.hst rfl) fun b y _ => ⟨upd_ne fun u => ?_, rfl⟩⟩
    rw [u, h.rst] at y; cases y
  · obtain ⟨y1, y2⟩ := h.tr b j y
    exact ⟨y1, by rw [upd_ne fun u => by rw [u, h.rst] at y; cases y]; exact y2⟩
theorem Lw.cong (h : Lw A W H S τ ρ M kvs o p B m) {M' : Mo} (e : M = M') : Lw A W H S τ ρ M' kvs o p B m := by rw [← e]; exact h
def Lk (S : Sys) (M : Mo) : Prop := ∀ i, S.tabs i = M i
theorem setM_id {M : Mo} {i : Int} {L : Tb} (h : M i = some L) : setM M i (some L) = M := by
  funext j
  unfold setM
  split
  · rename_i e; rw [e, h]
  · rfl
theorem setM_two (M : Mo) (i : Int) (a b : Option Tb) : setM (setM M i a) i b = setM M i b := by
  funext j
  unfold setM
  split <;> rfl
theorem setM_at (M : Mo) (i : Int) (a : Option Tb) : setM M i a i = a := if_pos rfl
theorem Lk.put {i : Int} {T : Option Tb} (h : Lk S M) (e : ∀ j, S'.tabs j = if j = i then T else S.tabs j) : Lk S' (setM M i T) := fun j => by
  rw [e]
  unfold setM
  split
  · rfl
  · exact h j
theorem Lw.dict (h : Lw A W H S τ ρ M kvs o p B m) {i : Int} {d : Addr} {L : Tb} (e : M i = some L) (hv : valV kvs (Sum.inl i) = some (.ref d)) : ∃ z g, H d = some (.dK z) ∧ DI z g ∧ (∀ n, RwO H (g n) (L n)) ∧ (∀ n, (L n).isSome = true → 0 ≤ n ∧ n < (512 : Nat)) ∧ z.length ≤ 512 ∧ (∀ n, (valV z (Sum.inl n)).isSome = (L n).isSome) := by
  obtain ⟨d', hv', _, z, g, h1, h2, h3, h4⟩ := h.space e
  rw [hv] at hv'
  cases hv'
  exact ⟨z, g, h1, h2, h3, h4, h2.len (n := 512) fun n hn => h4 n (by rw [← (h3 n).isSome]; exact hn), fun n => by rw [h2.val, (h3 n).isSome]⟩
theorem intsOf_mem (h : Lw A W H S τ ρ M kvs o p B m) {i : Int} (hi : i ∈ intsOf kvs) : ∃ L, M i = some L := by
  obtain ⟨g, di, hg⟩ := h.sv
  have z := (di.memI i).mp hi
  have r := hg i
  cases e : g i with
  | none => rw [e] at z; cases z
  | some v =>
    rw [e] at r
    cases e2 : M i with
    | none => rw [e2] at r; exact r.elim
    | some L => exact ⟨L, rfl⟩
theorem SpR.putRow {d : Addr} {L L' : Tb} {z : List (Key × V)} {f : Int → Option V} {n : Int} {v : V} {g : Pg} (hd : H d = some (.dK z)) (di : DI z f) (hf : ∀ n, RwO H (f n) (L n)) (bd : ∀ n, (L n).isSome = true → 0 ≤ n ∧ n < (512 : Nat)) (n0 : 0 ≤ n) (n1 : n < 512) (wf : WfP g) (hr : RwR H v g) (e : ∀ j, L' j = if j = n then some g else L j) :
    SpR (L2.upd H d (.dK (putK z (Sum.inl n) v))) d L' := by
  have kt : Kt H (L2.upd H d (.dK (putK z (Sum.inl n) v))) := Kt.upd hd rfl
  refine ⟨_, _, upd_same, di.put n v, fun j => ?_, fun j hj => ?_⟩
  · rw [e]
    by_cases ej : j = n
    · simp only [if_pos ej]; exact ⟨wf, hr.kt kt⟩
    · simp only [if_neg ej]; exact (hf j).kt kt
  · rw [e] at hj
    by_cases ej : j = n
    · rw [ej]; exact ⟨n0, by omega⟩
    · rw [if_neg ej] at hj; exact bd j hj
theorem SpR.delRow {d : Addr} {L L' : Tb} {z : List (Key × V)} {f : Int → Option V} {n : Int} (hd : H d = some (.dK z)) (di : DI z f) (hf : ∀ n, RwO H (f n) (L n)) (bd : ∀ n, (L n).isSome = true → 0 ≤ n ∧ n < (512 : Nat)) (e : ∀ j, L' j = if j = n then none else L j) :
    SpR (L2.upd H d (.dK (dropK z (Sum.inl n)))) d L' := by
  have kt : Kt H (L2.upd H d (.dK (dropK z (Sum.inl n)))) := Kt.upd hd rfl
  refine ⟨_, _, upd_same, di.drop n, fun j => ?_, fun j hj => ?_⟩
  · rw [e]
    by_cases ej : j = n
    · simp only [if_pos ej]; exact True.intro
    · simp only [if_neg ej]; exact (hf j).kt kt
  · rw [e] at hj
    by_cases ej : j = n
    · rw [if_pos ej] at hj; cases hj
    · rw [if_neg ej] at hj; exact bd j hj
theorem Lw.del {i : Int} {L : Tb} (h : Lw A W H S τ ρ (setM M i (some L)) kvs o p B m) {d : Addr} {L' : Tb} (hd : ρ d = some i) (hv : valV kvs (Sum.inl i) = some (.ref d)) {z : List (Key × V)} (hz : H d = some (.dK z)) {n : Int} (e : ∀ j, L' j = if j = n then none else L j) :
    Lw A W (upd H d (.dK (dropK z (Sum.inl n)))) S τ ρ (setM M i (some L')) kvs o p B m := by
  obtain ⟨z', g, h1, h2, h3, h4, _⟩ := h.dict (setM_at _ _ _) hv
  rw [hz] at h1
  cases h1
  have := h.put (setM_at _ _ _) hd hv (SpR.delRow hz h2 h3 h4 e)
  rw [setM_two] at this
  exact this
theorem Lw.add {i : Int} {L : Tb} (h : Lw A W H S τ ρ (setM M i (some L)) kvs o p B m) {d : Addr} {L' : Tb} (hd : ρ d = some i) (hv : valV kvs (Sum.inl i) = some (.ref d)) {z : List (Key × V)} (hz : H d = some (.dK z)) {n : Int} {v : V} {g : Pg} (n0 : 0 ≤ n) (n1 : n < 512) (wf : WfP g) (hr : RwR H v g) (e : ∀ j, L' j = if j = n then some g else L j) :
    Lw A W (upd H d (.dK (putK z (Sum.inl n) v))) S τ ρ (setM M i (some L')) kvs o p B m := by
  obtain ⟨z', g', h1, h2, h3, h4, _⟩ := h.dict (setM_at _ _ _) hv
  rw [hz] at h1
  cases h1
  have := h.put (setM_at _ _ _) hd hv (SpR.putRow hz h2 h3 h4 n0 n1 wf hr e)
  rw [setM_two] at this
  exact this
end
end My
set_option Elab.async false
set_option linter.all false
set_option maxRecDepth 100000
set_option maxHeartbeats 4000000
namespace My
open PySem L2
local macro_rules | `(tactic| walk_at "ds") => `(tactic| dsimp only [tSeq, tIfS, tTest, tB, tAnd, tOr, tNot, tAndV, tOrV, tNotV, tIf, tIsN, tNotN, tOp, tUn, tChain, rI, rI0, rU, tC, tCB, tCons, tNil, tAsg, gName, gSub, tRet, tRetN, tNext, tDrop, tLst, tTup, rIxL, rIxT, rSetL, tVar, tFld, tCall, tDGet, tDIn, tDNotIn, tNever, L2.start, List.map, List.replicate, List.length, List.append, List.cons_append, List.nil_append, List.set, Nat.sub])
local macro_rules | `(tactic| walk_at "hp") => `(tactic| first | assumption | exact upd_same | (refine Eq.trans (upd_ne (by first | assumption | (apply Ne.symm; assumption))) ?_; walk_at "hp"))
local macro_rules | `(tactic| walk_at "sd") => `(tactic| first
  | (show (_ : Int) ≠ 0; omega)
  | (refine (show CDivN _ _ from ⟨?_, ?_⟩) <;> omega)
  | (show CPow _ _; refine ⟨by omega, by omega, by omega⟩)
  | (show CMul _ _; exact Or.inl ⟨by omega, by omega⟩)
  | (show CMul _ _; exact Or.inr ⟨by omega, by omega⟩))
local macro_rules | `(tactic| walk_at "st") => `(tactic| first
  | refine ⟨_, rfl, ?_⟩
  | refine ⟨_, _, rfl, rfl, (by walk_at "sd"), ?_⟩
  | refine ⟨_, _, rfl, rfl, ?_⟩
  | refine ⟨_, _, _, _, rfl, rfl, SqL.of (by walk_at "hp"), rfl, ?_⟩
  | refine ⟨_, _, _, _, rfl, rfl, (by walk_at "hp"), rfl, ?_⟩
  | refine .inl ⟨_, rfl, ?_⟩
  | refine ⟨_, _, _, _, _, rfl, (by walk_at "hp"), (by assumption), (by assumption), rfl, ?_⟩
  | refine ⟨_, _, rfl, .inl (SqL.of (by walk_at "hp")), ?_⟩)
local macro_rules | `(tactic| walk_at "go") => `(tactic| repeat (first | walk_at "st" | (walk_at "ds"; walk_at "st")))
local macro_rules | `(tactic| walk_at "ni") => `(tactic| dsimp (config := { proj := false }) only [tNil, List.cons_append, List.nil_append])
/-- what stays while the dict at sp is walked -/
def Wk (sp : Addr) (H Z : Hp) : Prop := ∀ b o, b ≠ sp → H b = some o → Z b = some o
theorem Wk.kp {sp : Addr} {H Z : Hp} {τ : Tm} {kvs : List (Key × V)} (h : Wk sp H Z) (hs : H sp = some (.dK kvs)) (ts : τ sp = none) : Kp τ H Z := fun b o e c => h b o (fun z => by
  rcases c with c | c
  · exact c (by rw [z]; exact ts)
  · rw [z, hs] at e; cases e; cases c) e
theorem Wk.back {sp : Addr} {H Z : Hp} {kvs : List (Key × V)} (h : Wk sp H Z) (hs : H sp = some (.dK kvs)) : Same H (upd Z sp (.dK kvs)) := fun b o e => by
  by_cases eb : b = sp
  · rw [eb, upd_same, ← hs, ← eb, e]
  · rw [upd_ne eb]
    exact h _ _ eb e
theorem Wk.kt {sp : Addr} {H Z : Hp} {kvs : List (Key × V)} (h : Wk sp H Z) (hs : H sp = some (.dK kvs)) : Kt H Z := fun b o e i => h b o (fun z => by rw [z, hs] at e; cases e; cases i) e
/-- a test and two branches that go on at one place -/
theorem tIfS_join {c : TT} {t u : TS} {D : Ends} {σ : St} {H : Hp} (Pn : St → Hp → Prop) (hk : ∀ σ' H', Pn σ' H' → D.nx σ' H')
    (hc : ∀ D' : Ends, (∀ σ' H', Pn σ' H' → D'.nx σ' H') → D'.rt = D.rt → D'.ct = D.ct → D'.bk = D.bk → c σ H fun b H' => if b = true then t D' σ H' else u D' σ H') : tIfS c t u D σ H := hc D hk rfl rfl rfl
def shown (M : Mo) (k : Int) : Prop := ∃ i L n g, M i = some L ∧ L n = some g ∧ g.src = .obj k
theorem shapedSrc {g : Pg} (wf : WfP g) : SeqAt.shaped (dSrc g.src) = true := by
  obtain ⟨o1, o2, _, _, _⟩ := str_ok5
  have h2 := wf.okN
  refine shaped_of ?_ ?_
  · cases es : g.src with
    | non => simp [dSrc, PyData.canLay0, PyData.canLayAll0, es]
    | file n => simp [dSrc, PyData.canLay0, PyData.canLayAll0, es, o1, h2 n es]
    | obj k => simp [dSrc, PyData.canLay0, PyData.canLayAll0, es, o2]
  · cases es : g.src <;> simp [dSrc, PyData.depth, PyData.depthAll, es]
theorem shapedObj (k : Int) : SeqAt.shaped (dSrc (.obj k)) = true := by
  obtain ⟨o1, o2, _, _, _⟩ := str_ok5
  refine shaped_of ?_ ?_
  · simp [dSrc, PyData.canLay0, PyData.canLayAll0, o2]
  · simp [dSrc, PyData.depth, PyData.depthAll]
theorem lay_ones : ∀ n, PyData.canLayAll0 (List.replicate n (.int 1)) = true ∧ PyData.depthAll (List.replicate n (.int 1)) = 0
  | 0 => ⟨rfl, rfl⟩
  | n + 1 => by
    obtain ⟨a, b⟩ := lay_ones n
    rw [List.replicate_succ]
    exact ⟨by simp [PyData.canLayAll0, PyData.canLay0, a], by simp [PyData.depthAll, PyData.depth, b]⟩
theorem shaped_ones (n : Nat) : SeqAt.shaped (.list (List.replicate n (.int 1))) = true := shaped_of (by simp [PyData.canLay0, lay_ones n]) (by simp [PyData.depth, lay_ones n])
theorem dp_ones {K : PySem.W.Frag} {H : Hp} : ∀ n, DpAll K H (List.replicate n (V.int 1)) (List.replicate n (PyData.int 1))
  | 0 => .nil
  | n + 1 => by rw [List.replicate_succ, List.replicate_succ]; exact .cons (.int 1) (dp_ones n)
section
variable {P : Program} {w : World} {K : PySem.W.Frag} {mg : Str → Option Value} {base : Heap} {A : Adr}
def spFitsL : Sp := fun vs H Q _ => ∃ (d : Addr) (c : Int) (kvs : List (Key × V)) (f : Int → Bool), vs = [.ref d, .int c] ∧ H d = some (.dK kvs) ∧ KS f kvs ∧ Q (fits f c) H
theorem ok__law_fits (G : Txt K mg A) : FnOk P w K mg base CX0 1 A.a__law_fits A.fd__law_fits p__law_fits spFitsL := by
  refine G.f__law_fits.ok sc__law_fits (fun vs H Q E h => ?_) (fun cdv A' outer s H vs Q E hr h => ?_)
  · obtain ⟨d, c, kvs, f, rfl, _⟩ := h
    rfl
  · obtain ⟨d, c, kvs, f, rfl, hd, hf, k⟩ := h
    refine ⟨_, (pss_cons (ps_set (i := 2) sc__law_fits.nd rfl (Or.inl rfl) pe_int)
  (pss_cons (ps_for PassesOwn.never rfl (pi_range1 rfl G.b_range (pa_cons pe_int pa_nil)) (pg_name (i := 3) sc__law_fits.nd rfl (Or.inl rfl)) (pss_cons (ps_set (i := 2) sc__law_fits.nd rfl (Or.inl rfl) (pe_op op_add (pv 2) pe_int))
  (pss_cons (ps_if (pt_cmp (pc_din (hu_of hr) (pv 3) (pv 0))) (pss_one (ps_set (i := 2) sc__law_fits.nd rfl (Or.inl rfl) pe_int)) pss_nil)
  (pss_one (ps_if (pt_cmpR op_eq (pv 2) (pv 1) (nomark _)) (pss_one (ps_ret (pe_op op_add (pe_op op_sub (pv 3) (pv 1)) pe_int))) pss_nil)))))
  (pss_one (ps_ret pe_non)))), ?_⟩
    refine ⟨512, rfl, by decide, by decide, for_range (lo := 0) (n := 512) (fun i σ H' => H' = H ∧ (∃ c3, σ = [some (.ref d), some (.int c), some (.int (runN f i)), c3]) ∧ ∀ j, j < i → runN f (j + 1) ≠ c)
      ⟨rfl, ⟨_, rfl⟩, fun j hj => absurd hj (Nat.not_lt_zero j)⟩ ?_ ?_⟩
    · rintro i σ H1 hi ⟨rfl, ⟨c3, rfl⟩, nf⟩
      have ei : (0 : Int) + (i : Nat) = (i : Int) := Int.zero_add _
      rw [ei]
      refine ⟨_, rfl, _, _, rfl, rfl, ?_⟩
      refine ⟨_, rfl, _, rfl, d, _, rfl, DGet.k (k := Sum.inl (i : Int)) hd, _, rfl, ?_⟩
      rw [hf]
      have nf' : runN f (i + 1) ≠ c → ∀ j, j < i + 1 → runN f (j + 1) ≠ c := fun n j hj => by
        by_cases e : j = i
        · rw [e]; exact n
        · exact nf j (by omega)
      have k' : runN f (i + 1) = c → Q (.int ((i : Int) - c + 1)) H1 := fun e => by
        rw [← fits_at hi e nf]
        exact k
      cases cf : f (i : Int) with
      | true =>
        have er : runN f (i + 1) = 0 := by rw [runN, if_pos cf]
        rw [er] at nf' k'
        refine iteT ?_
        refine ⟨_, rfl, _, rfl, rfl, _, rfl, ?_⟩
        rw [decI]
        refine iteD (fun e => ?_) (fun e => ?_)
        · exact ⟨_, rfl, _, rfl, _, _, rfl, rfl, _, _, rfl, rfl, k' e⟩
        · exact ⟨rfl, ⟨some (V.int (i : Int)), by rw [er]; rfl⟩, nf' e⟩
      | false =>
        have er : runN f (i + 1) = runN f i + 1 := by rw [runN, if_neg (by rw [cf]; exact Bool.false_ne_true)]
        rw [er] at nf' k'
        refine iteF ?_
        refine ⟨_, rfl, _, rfl, rfl, _, rfl, ?_⟩
        rw [decI]
        refine iteD (fun e => ?_) (fun e => ?_)
        · exact ⟨_, rfl, _, rfl, _, _, rfl, rfl, _, _, rfl, rfl, k' e⟩
        · exact ⟨rfl, ⟨some (V.int (i : Int)), by rw [er]; rfl⟩, nf' e⟩
    · rintro σ H1 ⟨rfl, ⟨c3, rfl⟩, nf⟩
      rw [fits_no nf] at k
      exact k
def spAlive : Sp := fun vs H Q _ => ∃ (sp : Addr) (k : Int) (ρ : Addr → Option Int) (kvs : List (Key × V)) (M : Mo), vs = [.ref sp, .int k] ∧ H sp = some (.dK kvs) ∧ SpsV H ρ kvs M ∧ ρ sp = none ∧ kvs.length ≤ 4 ∧
  ∀ (b : Bool) (H' : Hp), Same H H' → (b = true ↔ shown M k) → Q (.bl b) H'
theorem ok__law_alive (G : Txt K mg A) : FnOk P w K mg base CX0 2 A.a__law_alive A.fd__law_alive p__law_alive spAlive := by
  refine G.f__law_alive.ok sc__law_alive (fun vs H Q E h => ?_) (fun cdv A' outer s H vs Q E hr h => ?_)
  · obtain ⟨sp, k, ρ, kvs, M, rfl, _⟩ := h
    rfl
  · obtain ⟨sp, kk, ρ, kvs, M, rfl, hsp, hsv, rs, few, k⟩ := h
    refine ⟨_, (pss_cons (ps_lock (ps_for PassesOwn.never rfl (pi_values (pv 0)) (pg_name (i := 2) sc__law_alive.nd rfl (Or.inl rfl)) (pss_one (ps_if (pt_cmpR (op_neD (hu64 hr)) (pe_lock (pe_lc (own := [("row", 3)]) (g := gName 3) (tt := tTest (tOp (rEqD K) (tOp (rIxT K) (tVar 3) (tC (V.int 2))) (tTup (tCons (tC (V.str "object")) (tCons (tVar 1) tNil))))) rfl sc__law_alive.nd (pi_values (pv 2)) (blkOk_by (own := [("row", 3)]) (N := n__law_alive) (sc := defScope s__law_alive) (by decide +kernel)) (fun _ _ _ _ _ => pg_name (i := 3) sc__law_alive.nd rfl (Or.inl rfl)) (fun _ _ _ _ _ => pts_one (pt_cmpR (op_eqD (hu64 hr)) (pe_ix ix_tup (pv 3) pe_int (fun _ _ => rfl)) (pe_tup (pa_cons pe_str (pa_cons (pv 1) pa_nil))) (nomark _))) (fun _ _ _ _ _ => pe_int))) (pe_lst pa_nil) (nomark _)) (pss_one (ps_ret pe_bl)) pss_nil))))
  (pss_one (ps_ret pe_bl))), ?_⟩
    obtain ⟨f, di, hf⟩ := hsv
    refine ⟨sp, _, hsp, trivial, fun od => ?_⟩
    refine ⟨_, rfl, sp, od, kvs, rfl, upd_same, for_it walk_values (fun j σ Z => (∃ c2 c3 : Option V, σ = [some (.ref sp), some (.int kk), c2, c3]) ∧ (¬ ∃ q ∈ kvs.take j, ∃ i L n g, q.1 = Sum.inl i ∧ M i = some L ∧ L n = some g ∧ g.src = .obj kk) ∧
        Z sp = some (.frz od (.dK kvs)) ∧ Wk sp H Z)
      ⟨⟨_, _, rfl⟩, fun ⟨q, hq, _⟩ => (nomatch hq), upd_same, fun b o n e => by rw [upd_ne n]; exact e⟩ (fun j σ Z _ z => z.2.2.1) ?_ ?_⟩
    · rintro j y σ Z0 Z hj ⟨⟨c2, c3, rfl⟩, no, zsp, zs⟩ ⟨rfl, key, hkv⟩
      obtain ⟨i, ei, ef⟩ := di.of_mem (List.mem_of_getElem? hkv)
      simp only at ei ef
      subst ei
      have rel := hf i
      rw [ef] at rel
      cases eL : M i with
      | none => rw [eL] at rel; exact rel.elim
      | some L =>
        rw [eL] at rel
        obtain ⟨d, rfl, hρ, z, g, hz, dg, hg, bd⟩ := rel
        have nd : d ≠ sp := fun u => by rw [u, rs] at hρ; cases hρ
        have hz2 := zs _ _ nd hz
        have zl : z.length ≤ 512 := dg.len (n := 512) fun n hn => bd n (by rw [← (hg n).isSome]; exact hn)
        have kt0 : Kt H Z := zs.kt hsp
        refine ⟨d, _, hz2, trivial, fun od2 => ?_⟩
        refine ⟨_, rfl, d, od2, z, rfl, upd_same, fun D hD => ?_⟩
        have nD : D ≠ d := fun u => by rw [u, upd_same] at hD; cases hD
        have ZD : Z D = none := by rw [upd_ne nD] at hD; exact hD
        refine lc_it walk_values (fun jj X => (∃ n : Nat, X D = some (.lst (List.replicate n (V.int 1))) ∧ n ≤ jj ∧ (n ≠ 0 ↔ ∃ q ∈ z.take jj, ∃ m g, q.1 = Sum.inl m ∧ L m = some g ∧ g.src = .obj kk)) ∧ X d = some (.frz od2 (.dK z)) ∧ Wk d Z X)
          ⟨⟨0, upd_same, Nat.le_refl _, ⟨fun z => absurd rfl z, fun ⟨q, hq, _⟩ => (nomatch hq)⟩⟩, by rw [upd_ne (Ne.symm nD), upd_same], fun b o n e => by rw [upd_ne (ne_of_none e ZD), upd_ne n]; exact e⟩ (fun jj X _ y => y.2.1) ?_ ?_
        · rintro jj y X0 X hjj ⟨⟨n, xD, nj, hn⟩, xd, xs⟩ ⟨rfl, key2, hkv2⟩
          obtain ⟨m, em, efm⟩ := dg.of_mem (List.mem_of_getElem? hkv2)
          simp only at em efm
          subst em
          have rm := hg m
          rw [efm] at rm
          cases egm : L m with
          | none => rw [egm] at rm; exact rm.elim
          | some pg =>
            rw [egm] at rm
            obtain ⟨wf, row⟩ := rm
            have kt1 : Kt H X := kt0.trans (xs.kt hz2)
            obtain ⟨t, sv, fa, rfl, ht, hsv, hfa⟩ := row.kt kt1
            have jl : jj < 512 := by
              obtain ⟨h1, _⟩ := List.getElem?_eq_some_iff.mp hkv2
              omega
            refine ⟨rfl, ?_⟩
            refine ⟨_, rfl, t, _, _, _, rfl, rfl, SqT.of ht, rfl, _, rfl, (by show 2 ≤ sizeLine; decide), fun p hp => ?_⟩
            have sp_ := Same.new (o := .tup [V.str "object", V.int kk]) hp
            refine ⟨dSrc pg.src, dSrc (.obj kk), dpSrc (hsv.kt (Kt.same sp_)), dpSrc ⟨p, rfl, upd_same⟩, shapedSrc wf, shapedObj kk, _, rfl, ?_⟩
            rw [dSrc_eqv]
            have w1 : Wk d Z (upd X p (.tup [V.str "object", V.int kk])) := fun b o nb e => sp_ _ _ (xs b o nb e)
            refine iteD (fun e => ?_) (fun e => ?_)
            · refine ⟨_, sp_ _ _ xD, Nat.lt_of_le_of_lt (by rw [List.length_replicate]; omega : (List.replicate n (V.int 1)).length ≤ 10000) (by decide), ⟨n + 1, by rw [upd_same, List.replicate_succ'], by omega, ⟨fun _ => ⟨_, by rw [take_succ hkv2]; exact List.mem_append_right _ List.mem_cons_self, m, pg, rfl, egm, e⟩, fun _ => by omega⟩⟩, ?_, fun b o nb e' => ?_⟩
              · rw [upd_ne (Ne.symm nD)]
                exact sp_ _ _ xd
              · rw [upd_ne (ne_of_none e' ZD)]
                exact w1 b o nb e'
            · refine ⟨⟨n, sp_ _ _ xD, by omega, ?_⟩, sp_ _ _ xd, w1⟩
              rw [hn, take_succ hkv2]
              constructor
              · rintro ⟨q, hq, u⟩
                exact ⟨q, List.mem_append_left _ hq, u⟩
              · rintro ⟨q, hq, m', g', e1, e2, e3⟩
                rcases List.mem_append.mp hq with u | u
                · exact ⟨q, u, m', g', e1, e2, e3⟩
                · rw [List.mem_singleton.mp u] at e1
                  have e4 := Sum.inl.inj e1
                  rw [← e4, egm] at e2
                  cases e2
                  exact absurd e3 e
        · rintro X ⟨⟨n, xD, nj, hn⟩, xd, xs⟩
          refine ⟨xd, ?_⟩
          rw [List.take_length] at hn
          have sb : Same Z (upd X d (.dK z)) := xs.back hz2
          have xD2 : (upd X d (.dK z)) D = some (.lst (List.replicate n (V.int 1))) := by rw [upd_ne nD]; exact xD
          refine ⟨Nat.zero_le _, fun p hp => ?_⟩
          have s2 := Same.new (o := .lst []) hp
          refine ⟨.list (List.replicate n (.int 1)), .list [], .lst (SqL.of (s2 _ _ xD2)) (dp_ones n), .lst (SqL.of upd_same) .nil, shaped_ones n, shaped_ones 0, _, rfl, ?_⟩
          rw [eqv_nil]
          have s3 := sb.trans s2
          have zsp3 := s3 _ _ zsp
          have zs3 : Wk sp H (upd (upd X d (.dK z)) p (.lst [])) := fun b o nb e => s3 _ _ (zs b o nb e)
          cases n with
          | succ n =>
            refine iteT ⟨zsp3, k true _ (zs3.back hsp) ⟨fun _ => ?_, fun _ => rfl⟩⟩
            obtain ⟨q, _, m, g', _, e2, e3⟩ := hn.mp (by omega)
            exact ⟨i, L, m, g', eL, e2, e3⟩
          | zero =>
            refine iteF ⟨⟨_, _, rfl⟩, ?_, zsp3, zs3⟩
            rw [take_succ hkv]
            rintro ⟨q, hq, i', L', m, g', e1, e2, e3, e4⟩
            rcases List.mem_append.mp hq with u | u
            · exact no ⟨q, u, i', L', m, g', e1, e2, e3, e4⟩
            · rw [List.mem_singleton.mp u] at e1
              have e5 := Sum.inl.inj e1
              subst e5
              rw [eL] at e2
              cases e2
              refine absurd rfl (hn.mpr ?_)
              have r := hg m
              rw [e3] at r
              cases ev : g m with
              | none => rw [ev] at r; exact r.elim
              | some v => exact ⟨(Sum.inl m, v), val_mem ((dg.val m).trans ev), m, g', rfl, e3, e4⟩
    · rintro σ Z ⟨⟨c2, c3, rfl⟩, no, zsp, zs⟩
      refine ⟨zsp, ?_⟩
      rw [List.take_length] at no
      refine k false _ (zs.back hsp) ⟨fun z => (nomatch z), fun ⟨i, L, m, g', e1, e2, e3⟩ => absurd ?_ no⟩
      have rel := hf i
      rw [e1] at rel
      cases ef : f i with
      | none => rw [ef] at rel; exact rel.elim
      | some v => exact ⟨_, val_mem ((di.val i).trans ef), i, L, m, g', rfl, e1, e2, e3⟩
def spRange : Sp := fun vs H Q _ => ∃ (a d : Addr) (B : Nat) (L : Tb), vs = [.ref a, .ref d] ∧ WellAt H a B ∧ B < 1000000 ∧ SpR H d L ∧
  ∀ (f c : Int) (t : Addr) (H' : Hp), 0 ≤ f → 1 ≤ c → c ≤ 6 → f + c ≤ 512 → But a H H' → WellAt H' a (B + 4) → H' t = some (.tup [.int f, .int c]) → Q (.ref t) H'
theorem ok__law_range (G : Txt K mg A) : FnOk P w K mg base CX0 3 A.a__law_range A.fd__law_range p__law_range spRange := by
  refine G.f__law_range.ok sc__law_range (fun vs H Q E h => ?_) (fun cdv A' outer s H vs Q E hr h => ?_)
  · obtain ⟨a, d, B, L, rfl, _⟩ := h
    rfl
  · obtain ⟨a, d, B, L, rfl, hw, hB, ⟨z, f, hz, di, hf, bd⟩, k⟩ := h
    refine ⟨_, (pss_cons (ps_set (i := 2) sc__law_range.nd rfl (Or.inl rfl) (pe_call (ok__law_draw G) (hr.mono (by decide)) rfl G.g__law_draw G.k__law_draw G.bi__law_draw .nil pass0 (pa_cons (pv 0) (pa_cons pe_int pa_nil))))
  (pss_cons (ps_if (PW.pt (pw_and (pt_cmpR (op_neE (hu0 hr)) (pv 1) pe_dnewK (nomark _)) (pw_and1 (pt_cmpR op_gt (pe_call (ok__law_draw G) (hr.mono (by decide)) rfl G.g__law_draw G.k__law_draw G.bi__law_draw .nil pass0 (pa_cons (pv 0) (pa_cons pe_int pa_nil))) pe_int (nomark _))))) (pss_one (ps_set (i := 2) sc__law_range.nd rfl (Or.inl rfl) (pe_call (ok__law_one G) (hr.mono (by decide)) rfl G.g__law_one G.k__law_one G.bi__law_one .nil pass0 (pa_cons (pv 0) (pa_cons (pe_callB (call_sortedDL rfl) (by rfl) G.b_sorted (by decide +kernel) (pa_cons (pv 1) pa_nil)) pa_nil))))) pss_nil)
  (pss_one (ps_ret (pe_tup (pa_cons (pv 2) (pa_cons (pe_op op_add pe_int (pe_call (ok__law_draw G) (hr.mono (by decide)) rfl G.g__law_draw G.k__law_draw G.bi__law_draw .nil pass0 (pa_cons (pv 0) (pa_cons (pe_callB (call_min2 rfl) (by rfl) G.b_min (by decide +kernel) (pa_cons pe_int (pa_cons (pe_op op_sub pe_int (pv 2)) pa_nil))) pa_nil)))) pa_nil))))))), ?_⟩
    have zl : z.length ≤ 512 := di.len (n := 512) fun n hn => bd n (by rw [← (hf n).isSome]; exact hn)
    obtain ⟨xs, hx⟩ := id hw.lst
    have nad : d ≠ a := ne_of hz hx (by intro u; cases u)
    refine ⟨_, rfl, a, 40, B, rfl, by decide, by decide, hw, by omega, fun f0 H1 f00 f01 b1 w1 => ?_⟩
    have hz1 := b1 _ _ nad hz
    dsimp only [tSeq]
    refine tIfS_join (fun σ' H' => ∃ (fv : Int) (B' : Nat), σ' = [some (.ref a), some (.ref d), some (.int fv)] ∧ 0 ≤ fv ∧ fv < 512 ∧ But a H H' ∧ WellAt H' a B' ∧ B' ≤ B + 3) ?_ (fun D' dn _ _ _ => ?_)
    · rintro _ H2 ⟨fv, B', rfl, v0, v1, b2, w2, hb⟩
      obtain ⟨m, em, m0, m1, m2⟩ : ∃ m, (if 512 - fv < 6 then 512 - fv else 6) = m ∧ 1 ≤ m ∧ m ≤ 6 ∧ m ≤ 512 - fv := by
        refine ⟨_, rfl, ?_, ?_, ?_⟩ <;> split <;> omega
      refine ⟨_, rfl, _, rfl, _, rfl, _, _, rfl, rfl, _, _, rfl, ?_⟩
      rw [em]
      refine ⟨a, m, B', rfl, by omega, by omega, w2, by omega, fun dr H3 d0 d1 b3 w3 => ⟨_, _, rfl, rfl, (by show 2 ≤ sizeLine; decide), fun t ht => ?_⟩⟩
      exact k fv (1 + dr) t _ v0 (by omega) (by omega) (by omega) ((b2.trans b3).trans (But.of (Same.new ht))) ((w3.mono (by omega) (by omega)).same (by
        obtain ⟨ys, hy⟩ := w3.lst
        exact upd_ne (ne_of_none hy ht))) upd_same
    · refine ⟨_, rfl, fun p hp => ?_⟩
      have s2 := Same.new (o := .dK []) hp
      have hz2 := s2 _ _ hz1
      have w2 : WellAt (upd H1 p (.dK [])) a (B + 1) := w1.same (by
        obtain ⟨ys, hy⟩ := w1.lst
        exact upd_ne (ne_of_none hy hp))
      refine ⟨d, p, z, rfl, rfl, hz2, upd_same, _, rfl, iteB (fun e => ?_) (fun e => ?_)⟩
      · refine ⟨_, rfl, a, 4, B + 1, rfl, by decide, by decide, w2, by omega, fun dr H3 _ _ b3 w3 => ⟨_, _, rfl, rfl, _, rfl, iteB (fun e2 => ?_) (fun e2 => ?_)⟩⟩
        · have hz3 := b3 _ _ nad hz2
          refine ⟨_, rfl, _, rfl, d, z, intsOf z, rfl, .inl hz3, di.keys, fun ys p2 hperm _ hp2 => ?_⟩
          have ly : (ys.map V.int).length = z.length := by rw [List.length_map, hperm.length_eq, intsOf_length]
          have z0 : 0 < z.length := by
            cases z with
            | nil => cases e
            | cons _ _ => exact Nat.succ_pos _
          have s4 := Same.new (o := .lst (ys.map V.int)) hp2
          obtain ⟨yw, hyw⟩ := w3.lst
          refine ⟨a, p2, _, B + 2, rfl, upd_same, (show p2 ≠ a from (ne_of_none hyw hp2).symm), by omega, by omega, w3.same ((s4 _ _ hyw).trans hyw.symm), by omega, fun v H4 hv b4 w4 => ?_⟩
          obtain ⟨i, hi, rfl⟩ := List.mem_map.mp hv
          have hs := (di.memI i).mp (hperm.mem_iff.mp hi)
          rw [(hf i).isSome] at hs
          have bi := bd i hs
          exact dn _ _ ⟨i, B + 3, rfl, bi.1, by omega, ((b1.trans (But.of s2)).trans b3).trans ((But.of s4).trans b4), w4, Nat.le_refl _⟩
        · exact dn _ _ ⟨f0, B + 2, rfl, f00, by omega, (b1.trans (But.of s2)).trans b3, w3, by omega⟩
      · exact dn _ _ ⟨f0, B + 1, rfl, f00, by omega, b1.trans (But.of s2), w2, by omega⟩
end
end My
set_option Elab.async false
set_option linter.all false
set_option maxRecDepth 100000
set_option maxHeartbeats 4000000
namespace My
open PySem L2
local macro_rules | `(tactic| walk_at "ds") => `(tactic| dsimp only [tSeq, tIfS, tTest, tB, tAnd, tOr, tNot, tAndV, tOrV, tNotV, tIf, tIsN, tNotN, tOp, tUn, tChain, rI, rI0, rU, tC, tCB, tCons, tNil, tAsg, gName, gSub, tRet, tRetN, tNext, tDrop, tLst, tTup, rIxL, rIxT, rSetL, tVar, tFld, tCall, tDGet, tDIn, tDNotIn, tNever, L2.start, List.map, List.replicate, List.length, List.append, List.cons_append, List.nil_append, List.set, Nat.sub])
local macro_rules | `(tactic| walk_at "hp") => `(tactic| first | assumption | exact upd_same | (refine Eq.trans (upd_ne (by first | assumption | (apply Ne.symm; assumption))) ?_; walk_at "hp"))
local macro_rules | `(tactic| walk_at "sd") => `(tactic| first
  | (show (_ : Int) ≠ 0; omega)
  | (refine (show CDivN _ _ from ⟨?_, ?_⟩) <;> omega)
  | (show CPow _ _; refine ⟨by omega, by omega, by omega⟩)
  | (show CMul _ _; exact Or.inl ⟨by omega, by omega⟩)
  | (show CMul _ _; exact Or.inr ⟨by omega, by omega⟩))
local macro_rules | `(tactic| walk_at "st") => `(tactic| first
  | refine ⟨_, rfl, ?_⟩
  | refine ⟨_, _, rfl, rfl, (by walk_at "sd"), ?_⟩
  | refine ⟨_, _, rfl, rfl, ?_⟩
  | refine ⟨_, _, _, _, rfl, rfl, SqL.of (by walk_at "hp"), rfl, ?_⟩
  | refine ⟨_, _, _, _, rfl, rfl, (by walk_at "hp"), rfl, ?_⟩
  | refine .inl ⟨_, rfl, ?_⟩
  | refine ⟨_, _, _, _, _, rfl, (by walk_at "hp"), (by assumption), (by assumption), rfl, ?_⟩
  | refine ⟨_, _, rfl, .inl (SqL.of (by walk_at "hp")), ?_⟩)
local macro_rules | `(tactic| walk_at "go") => `(tactic| repeat (first | walk_at "st" | (walk_at "ds"; walk_at "st")))
local macro_rules | `(tactic| walk_at "ni") => `(tactic| dsimp (config := { proj := false }) only [tNil, List.cons_append, List.nil_append])
section
variable {P : Program} {w : World} {K : PySem.W.Frag} {mg : Str → Option Value} {base : Heap} {A : Adr}
def spEnded (A : Adr) : Sp := fun vs H Q _ => ∃ (W : Wo) (S : Sys) (τ : Tm) (ρ : Addr → Option Int) (M : Mo) (kvs : List (Key × V)) (o p : Int) (B m : Nat) (i : Int) (L : Tb), vs = [.ref W.a, .ref W.x, .ref W.sp, .int i] ∧
  Lw A W H S τ ρ M kvs o p B m ∧ Lk S M ∧ M i = some L ∧ m < 900 ∧ B < 900000 ∧
  ∀ (H' : Hp) (S' : Sys) (τ' : Tm) (ρ' : Addr → Option Int) (M' : Mo) (kvs' : List (Key × V)), S'.o = S.o → S'.p = S.p → Lw A W H' S' τ' ρ' M' kvs' o p (B + 5) (m + 1) → Lk S' M' → Q .non H'
theorem ok__law_ended (G : Txt K mg A) : FnOk P w K mg base CX0 7 A.a__law_ended A.fd__law_ended p__law_ended (spEnded A) := by
  refine G.f__law_ended.ok sc__law_ended (fun vs H Q E h => ?_) (fun cdv A' outer s H vs Q E hr h => ?_)
  · obtain ⟨W, S, τ, ρ, M, kvs, o, p, B, m, i, L, rfl, _⟩ := h
    rfl
  · obtain ⟨W, S, τ, ρ, M, kvs, o, p, B, m, i, L, rfl, hL0, hk, eM, hm, hB, k⟩ := h
    refine ⟨_, (pss_cons (ps_set (i := 4) sc__law_ended.nd rfl (Or.inl rfl) (pe_call (ok__law_draw G) (hr.mono (by decide)) rfl G.g__law_draw G.k__law_draw G.bi__law_draw .nil pass0 (pa_cons (pv 0) (pa_cons pe_int pa_nil))))
  (pss_one (ps_if (PW.pt (pw_and (pt_cmpR op_eq (pv 4) pe_int (nomark _)) (pw_and1 (pt_cmpR op_gt (pe_callB call_lenD (by rfl) G.b_len (by decide +kernel) (pa_cons (pv 2) pa_nil)) pe_int (nomark _))))) (pss_cons (ps_expr (pe_call (ok_leave G) (hr.mono (by decide)) rfl G.g_leave G.k_leave G.bi_leave .nil passL (pa_cons (pv 1) (pa_cons (pv 3) pa_nil))))
  (pss_one (ps_expr (pe_dpop1 (pv 2) (pv 3) ⟨rfl, rfl, rfl, rfl⟩)))) (pss_one (ps_if (pt_cmpR op_eq (pv 4) pe_int (nomark _)) (pss_cons (ps_expr (pe_call (ok_fresh G) (hr.mono (by decide)) rfl G.g_fresh G.k_fresh G.bi_fresh .nil passL (pa_cons (pv 1) (pa_cons (pv 3) pa_nil))))
  (pss_one (ps_dput (hu_of hr) (pv 2) (pv 3) pe_dnewK rfl))) (pss_cons (ps_asg (pe_call (ok__law_range G) (hr.mono (by decide)) rfl G.g__law_range G.k__law_range G.bi__law_range .nil pass0 (pa_cons (pv 0) (pa_cons (pe_dget (hu_of hr) (pv 2) (pv 3) (fun _ _ => rfl)) pa_nil))) (pg_tup rfl (pgs_cons (pg_name (i := 5) sc__law_ended.nd rfl (Or.inl rfl)) (pgs_cons (pg_name (i := 6) sc__law_ended.nd rfl (Or.inl rfl)) pgs_nil))))
  (pss_cons (ps_expr (pe_call (ok_unmap G) (hr.mono (by decide)) rfl G.g_unmap G.k_unmap G.bi_unmap .nil passL (pa_cons (pv 1) (pa_cons (pv 3) (pa_cons (pv 5) (pa_cons (pv 6) pa_nil))))))
  (pss_one (ps_for PassesOwn.never rfl (pi_range2 rfl G.b_range (pa_cons (pv 5) (pa_cons (pe_op op_add (pv 5) (pv 6)) pa_nil))) (pg_name (i := 7) sc__law_ended.nd rfl (Or.inl rfl)) (pss_one (ps_expr (pe_dpop2 (pe_dget (hu_of hr) (pv 2) (pv 3) (fun _ _ => rfl)) (pv 7) pe_non ⟨rfl, rfl, rfl, rfl⟩)))))))))))), ?_⟩
    refine ⟨_, rfl, W.a, 8, B, rfl, by decide, by decide, hL0.wl, by omega, fun way H1 y0 y1 b1 w1 => ?_⟩
    have hL := hL0.keep w1 b1
    clear hL0 b1 w1
    obtain ⟨d, hv, hd, _⟩ := hL.space eM
    have eT : S.tabs i = some L := (hk i).trans eM
    have tkeep : ∀ {S' : Sys}, S'.p = S.p → S'.p ≤ 1 + (m + 1) := fun e => by have := hL.bp; omega
    have okeep : ∀ {S' : Sys}, S'.o = S.o → S'.o ≤ ((m + 1 : Nat) : Int) := fun e => by have := hL.bo; omega
    dsimp only [gName, tSeq]
    refine tIfS_s (b := decide (way = 0) && decide (1 < kvs.length)) (fun Q' q => ?_) (fun e H2 s2 => ?_) (fun e5 H2 s2 => ?_)
    · refine ⟨_, rfl, rfl, _, rfl, ?_⟩
      rw [decI]
      refine iteB (fun e => ?_) (fun e => ?_)
      · rw [e, Bool.true_and] at q
        refine ⟨_, rfl, W.sp, kvs, rfl, hL.hs, _, _, rfl, rfl, _, rfl, ?_⟩
        have e0 : decide ((1 : Int) < (kvs.length : Int)) = decide (1 < kvs.length) := by rw [decide_eq_decide]; omega
        rw [e0]
        exact q _ fun _ _ h => h
      · rw [e, Bool.false_and] at q
        exact q _ fun _ _ h => h
    · -- leave
      rw [Bool.and_eq_true] at e
      have L2 := hL.same s2
      refine ⟨_, rfl, _, rfl, ?_⟩
      walk_at "ni"
      refine use_leave L2.sy eT fun H3 τ3 g3 S3 => ?_
      have L3 := L2.go (m' := m + 1) g3 S3 (tkeep rfl) (okeep rfl) rfl
      refine ⟨_, rfl, W.sp, rfl, .inl ⟨kvs, .inl L3.hs⟩, _, rfl, kvs, Sum.inl i, .ref d, L3.hs, rfl, hv, ?_⟩
      exact k _ (endS S i) _ _ _ _ rfl rfl ((L3.drop i (of_decide_eq_true e.2)).mono (by omega) (by omega)) (hk.put (fun j => rfl))
    have LA := hL.same s2
    refine tIfS_s (b := decide (way = 1)) (fun Q' q => ?_) (fun e H3 s3 => ?_) (fun e6 H3 s3 => ?_)
    · refine ⟨_, rfl, rfl, _, rfl, ?_⟩
      rw [decI]
      exact q _ fun _ _ h => h
    · -- fresh
      have L4 := LA.same s3
      refine ⟨_, rfl, _, rfl, ?_⟩
      walk_at "ni"
      refine use_fresh L4.sy eT fun H5 τ5 g5 S5 => ?_
      have L5 := L4.go (m' := m + 1) g5 S5 (tkeep rfl) (okeep rfl) rfl
      refine fun q hq => ?_
      have L6 := L5.same (Same.new (o := .dK []) hq)
      have rp : ρ q = none := by
        cases e : ρ q with
        | none => rfl
        | some j =>
          obtain ⟨_, y, e2⟩ := L5.tr q j e
          rw [hq] at e2
          cases e2
      have np : q ≠ W.sp := (ne_of_none L5.hs hq).symm
      have nt : q ≠ W.st := (ne_of_none L5.hst hq).symm
      refine ⟨_, rfl, _, rfl, W.sp, _, rfl, DPut.k (k := Sum.inl i) L6.hs (Nat.lt_of_le_of_lt (by have := hL.few; omega : kvs.length ≤ 10000) (by decide)), ?_⟩
      refine k _ (freshS S i) _ _ _ _ rfl rfl ((L6.putNew (L' := fun _ => none) rp (L5.sy.fresh hq) np nt ⟨[], _, upd_same, DI.nil, fun _ => True.intro, fun _ h => (nomatch h)⟩ ?_).mono (by omega) (by omega)) (hk.put (fun j => rfl))
      have y := congrArg List.length (keys_put kvs (Sum.inl i) (V.ref q))
      rw [hv, if_pos (show (some (V.ref d)).isSome = true from rfl), List.length_map, List.length_map] at y
      rw [y]
      exact hL.few.2
    · -- unmap
      have LB := LA.same s3
      obtain ⟨d', hv', hd', sr⟩ := LB.space eM
      rw [hv] at hv'
      cases hv'
      refine ⟨_, rfl, _, rfl, _, rfl, W.sp, .ref d, rfl, (by rw [← hv]; exact DGet.k (k := Sum.inl i) LB.hs), W.a, d, B + 1, L, rfl, LB.wl, by omega, sr, fun f c t H4 f0 c0 c1 fc b4 w4 ht => ?_⟩
      have LC := LB.keep w4 b4
      refine ⟨t, _, rfl, SqT.of ht, rfl, _, _, rfl, _, _, rfl, rfl, ?_⟩
      refine ⟨_, rfl, _, rfl, _, rfl, _, rfl, ?_⟩
      walk_at "ni"
      refine use_unmap LC.sy eT f0 c0 (by omega) fun H5 τ5 g5 S5 => ?_
      have L1 := LC.go (m' := m + 1) g5 S5 (tkeep rfl) (okeep rfl) rfl
      refine ⟨_, rfl, _, rfl, _, rfl, _, _, rfl, rfl, f, f + c, rfl, ⟨by omega, by omega, by omega, by omega⟩, for_range (lo := f) (n := (f + c - f).toNat) (fun j σ Z => (∃ c7, σ = [some (.ref W.a), some (.ref W.x), some (.ref W.sp), some (.int i), some (.int way), some (.int f), some (.int c), c7]) ∧
        Lw A W Z (unmS S i L f c) τ5 ρ (setM M i (some fun n => if f ≤ n ∧ n < f + (j : Nat) then none else L n)) kvs o p (B + 5) (m + 1)) ⟨⟨_, rfl⟩, ?_⟩ ?_ ?_⟩
      · refine L1.cong ?_
        have e0 : (fun n => if f ≤ n ∧ n < f + ((0 : Nat) : Int) then none else L n) = L := by
          funext n
          rw [if_neg (by omega)]
        rw [e0, setM_id eM]
      · rintro j σ Z hj ⟨⟨c7, rfl⟩, LZ⟩
        obtain ⟨z, g, hz, dg, hg, bd, zl, zs⟩ := LZ.dict (setM_at _ _ _) hv
        have ex : ∀ n, (if f ≤ n ∧ n < f + ((j + 1 : Nat) : Int) then none else L n) = if n = f + (j : Int) then none else if f ≤ n ∧ n < f + (j : Int) then none else L n := fun n => by
          by_cases e1 : n = f + (j : Int)
          · rw [if_pos e1, if_pos (by omega)]
          · rw [if_neg e1]
            by_cases e2 : f ≤ n ∧ n < f + (j : Int)
            · rw [if_pos e2, if_pos (by omega)]
            · rw [if_neg e2, if_neg (by omega)]
        refine ⟨_, rfl, _, rfl, W.sp, .ref d, rfl, (by rw [← hv]; exact DGet.k (k := Sum.inl i) LZ.hs), d, rfl, .inl ⟨z, .inl hz⟩, _, rfl, z, Sum.inl (f + (j : Nat)), hz, rfl, fun v hv' => ⟨⟨_, rfl⟩, LZ.del hd hv hz ex⟩, fun hv' => ⟨⟨_, rfl⟩, LZ.cong ?_⟩⟩
        have e0 : (fun n => if f ≤ n ∧ n < f + ((j + 1 : Nat) : Int) then none else L n) = fun n => if f ≤ n ∧ n < f + (j : Int) then none else L n := by
          funext n
          rw [ex]
          by_cases e1 : n = f + (j : Int)
          · rw [if_pos e1, e1]
            have y := zs (f + (j : Int))
            rw [hv'] at y
            cases y2 : (if f ≤ f + (j : Int) ∧ f + (j : Int) < f + (j : Int) then none else L (f + (j : Int))) with
            | none => rfl
            | some _ => rw [y2] at y; cases y
          · rw [if_neg e1]
        rw [e0]
      · rintro σ Z ⟨⟨c7, rfl⟩, LZ⟩
        have e0 : f + (((f + c - f).toNat : Nat) : Int) = f + c := by omega
        rw [e0] at LZ
        exact k Z (unmS S i L f c) _ _ _ _ rfl rfl LZ (hk.put (T := some (unmT L f c)) (fun j => rfl))
end
end My
set_option Elab.async false
set_option linter.all false
set_option maxRecDepth 100000
set_option maxHeartbeats 4000000
namespace My
open PySem L2
local macro_rules | `(tactic| walk_at "ds") => `(tactic| dsimp only [tSeq, tIfS, tTest, tB, tAnd, tOr, tNot, tAndV, tOrV, tNotV, tIf, tIsN, tNotN, tOp, tUn, tChain, rI, rI0, rU, tC, tCB, tCons, tNil, tAsg, gName, gSub, tRet, tRetN, tNext, tDrop, tLst, tTup, rIxL, rIxT, rSetL, tVar, tFld, tCall, tDGet, tDIn, tDNotIn, tNever, L2.start, List.map, List.replicate, List.length, List.append, List.cons_append, List.nil_append, List.set, Nat.sub])
local macro_rules | `(tactic| walk_at "hp") => `(tactic| first | assumption | exact upd_same | (refine Eq.trans (upd_ne (by first | assumption | (apply Ne.symm; assumption))) ?_; walk_at "hp"))
local macro_rules | `(tactic| walk_at "sd") => `(tactic| first
  | (show (_ : Int) ≠ 0; omega)
  | (refine (show CDivN _ _ from ⟨?_, ?_⟩) <;> omega)
  | (show CPow _ _; refine ⟨by omega, by omega, by omega⟩)
  | (show CMul _ _; exact Or.inl ⟨by omega, by omega⟩)
  | (show CMul _ _; exact Or.inr ⟨by omega, by omega⟩))
local macro_rules | `(tactic| walk_at "st") => `(tactic| first
  | refine ⟨_, rfl, ?_⟩
  | refine ⟨_, _, rfl, rfl, (by walk_at "sd"), ?_⟩
  | refine ⟨_, _, rfl, rfl, ?_⟩
  | refine ⟨_, _, _, _, rfl, rfl, SqL.of (by walk_at "hp"), rfl, ?_⟩
  | refine ⟨_, _, _, _, rfl, rfl, (by walk_at "hp"), rfl, ?_⟩
  | refine .inl ⟨_, rfl, ?_⟩
  | refine ⟨_, _, _, _, _, rfl, (by walk_at "hp"), (by assumption), (by assumption), rfl, ?_⟩
  | refine ⟨_, _, rfl, .inl (SqL.of (by walk_at "hp")), ?_⟩)
local macro_rules | `(tactic| walk_at "go") => `(tactic| repeat (first | walk_at "st" | (walk_at "ds"; walk_at "st")))
local macro_rules | `(tactic| walk_at "ni") => `(tactic| dsimp (config := { proj := false }) only [tNil, List.cons_append, List.nil_append])
section
variable {A : Adr} {W : Wo} {H H' : Hp} {S S' : Sys} {τ τ' : Tm} {ρ : Addr → Option Int} {M : Mo} {kvs : List (Key × V)} {o p : Int} {B B' m m' : Nat}
theorem Lw.up (h : Lw A W H S τ ρ M kvs o p B m) : Lw A W H S τ ρ M kvs o p B (m + 1) := h.go (Go.refl _ _) h.sy (by have := h.bp; omega) (by have := h.bo; omega) rfl
/-- a draw -/
theorem Lw.drawQ (h : Lw A W H S τ ρ M kvs o p B m) (hB : B < 990000) {n : Int} (n0 : 0 < n) (n1 : n < 1000000) {Q : VK} {E : XK} (k : ∀ d H', 0 ≤ d → d < n → But W.a H H' → Lw A W H' S τ ρ M kvs o p (B + 1) m → Q (.int d) H') : spDrawI [.ref W.a, .int n] H Q E :=
  drawI ⟨W.a, n, B, rfl, n0, n1, h.wl, by omega, fun d H' d0 d1 b w => k d H' d0 d1 b (h.keep w b)⟩
/-- one of some things, in a new list -/
theorem Lw.oneQ {K : PySem.W.Frag} (h : Lw A W H S τ ρ M kvs o p B m) (hB : B < 990000) {l : Addr} {xs : List V} (hl : H l = none) (x0 : 0 < xs.length) (x1 : xs.length < 1000) {Q : VK} {E : XK}
    (k : ∀ v H', v ∈ xs → But W.a (L2.upd H l (.lst xs)) H' → Lw A W H' S τ ρ M kvs o p (B + 1) m → Q v H') : spOneI K [.ref W.a, .ref l] (L2.upd H l (.lst xs)) Q E := by
  obtain ⟨ys, hy⟩ := h.wl.lst
  have h2 := h.same (Same.new (o := .lst xs) hl)
  exact oneI ⟨W.a, l, xs, B, rfl, upd_same, (ne_of_none hy hl).symm, x0, x1, h2.wl, by omega, fun v H' hv b w => k v H' hv b (h2.keep w b)⟩
end
theorem isSome_all {L : Tb} {f : Int} {c : Nat} {acc : List Int} (h : acc = [] ↔ ∀ k : Nat, k < c → (L (f + (k : Int))).isSome = true) (e : acc = []) {n : Int} (n0 : f ≤ n) (n1 : n < f + (c : Int)) : (L n).isSome = true := by
  have := h.mp e (n - f).toNat (by omega)
  have e2 : f + (((n - f).toNat : Nat) : Int) = n := by omega
  rw [e2] at this
  exact this
theorem lay_ints : ∀ ns : List Int, PyData.canLayAll0 (ns.map PyData.int) = true ∧ PyData.depthAll (ns.map PyData.int) = 0
  | [] => ⟨rfl, rfl⟩
  | n :: r => by
    obtain ⟨a, b⟩ := lay_ints r
    rw [List.map_cons]
    exact ⟨by simp [PyData.canLayAll0, PyData.canLay0, a], by simp [PyData.depthAll, PyData.depth, b]⟩
theorem shaped_ints' (ns : List Int) : SeqAt.shaped (.list (ns.map PyData.int)) = true := shaped_of (by simp [PyData.canLay0, lay_ints ns]) (by simp [PyData.depth, lay_ints ns])
theorem dp_ints {K : PySem.W.Frag} {H : Hp} : ∀ ns : List Int, DpAll K H (ns.map V.int) (ns.map PyData.int)
  | [] => .nil
  | n :: r => .cons (.int n) (dp_ints r)
def setFl (n : Str) (b : Bool) (f : Fl) : Fl := if n = "merge" then { f with m := b } else if n = "stay" then { f with s := b } else { f with w := b }
theorem setFl_m (b : Bool) (f : Fl) : setFl "merge" b f = flF (.bl b) .non .non f := if_pos rfl
theorem setFl_s (b : Bool) (f : Fl) : setFl "stay" b f = flF .non (.bl b) .non f := by
  unfold setFl
  rw [if_neg (by decide +kernel), if_pos rfl]
  rfl
theorem setFl_w (b : Bool) (f : Fl) : setFl "wipe" b f = flF .non .non (.bl b) f := by
  unfold setFl
  rw [if_neg (by decide +kernel), if_neg (by decide +kernel)]
  rfl
theorem perm_fl (b : Bool) (f : Fl) : ∀ n ∈ nm3, (((flL f).filter fun x => !decide (x = n)) ++ (if b = true then [n] else [])).Perm (flL (setFl n b f)) := by
  obtain ⟨x, y, z⟩ := f
  cases b <;> cases x <;> cases y <;> cases z <;> decide +kernel
/-- what is done to a page -/
def chF (way : Int) (r n : Str) (b : Bool) (g : Pg) : Pg := if way = 0 then prtG r g else { g with fl := setFl n b g.fl }
theorem chF_prt {way : Int} {r n : Str} {b : Bool} (h : way = 0) : chF way r n b = prtG r := by
  funext g
  exact if_pos h
theorem chF_flg {way : Int} {r n : Str} {b : Bool} (h : way ≠ 0) {x y z : V} (e : ∀ f, setFl n b f = flF x y z f) : chF way r n b = flgG x y z := by
  funext g
  unfold chF flgG
  rw [if_neg h, e]
theorem chF_wf {way : Int} {r n : Str} {b : Bool} {g : Pg} (h : WfP g) (hr : PyData.strOk r = true) : WfP (chF way r n b g) := by
  unfold chF
  split
  · exact h.prt hr
  · exact ⟨h.sh, h.ob, h.ix, h.no, h.okR, h.okN⟩
theorem mpT_0 (L : Tb) (f : Int) (h : Pg → Pg) : mpT L f ((0 : Nat) : Int) h = L := by
  funext n
  exact if_neg (by omega)
theorem mpT_succ {L : Tb} {f : Int} {j : Nat} {h : Pg → Pg} {g : Pg} (e : L (f + (j : Int)) = some g) (n : Int) : mpT L f ((j + 1 : Nat) : Int) h n = if n = f + (j : Int) then some (h g) else mpT L f (j : Int) h n := by
  unfold mpT
  by_cases c1 : n = f + (j : Int)
  · rw [if_pos c1, if_pos (by omega), c1, e]
    rfl
  · rw [if_neg c1]
    by_cases c2 : f ≤ n ∧ n < f + (j : Int)
    · rw [if_pos c2, if_pos (by omega)]
    · rw [if_neg c2, if_neg (by omega)]
/-- a part of a list of texts -/
theorem cut_one (n : Str) (b : Bool) : cutV [V.str n] none (some (if b = true then (1 : Int) else 0)) = (if b = true then ([n] : List Str) else []).map V.str := by
  cases b <;> rfl
section
variable {P : Program} {w : World} {K : PySem.W.Frag} {mg : Str → Option Value} {base : Heap} {A : Adr}
section
variable {H : Hp} {x : Addr} {wh : Wh} {S : Sys} {τ : Tm} {i f c t : Int} {T : Tb} {Q : VK} {E : XK}
theorem use_prot {r : Str} (hS : Sr A H x wh S τ) (eT : S.tabs i = some T) (f0 : 0 ≤ f) (c0 : 1 ≤ c) (fc : f + c ≤ 512) (hr : isW RTS (.str r) = true) (all : ∀ j, f ≤ j → j < f + c → mpd T j = true)
    (k : ∀ H' τ', Go τ H τ' H' → Sr A H' x wh (mpS S i T f c (prtG r)) τ' → Q .non H') : spProt A [.ref x, .int i, .int f, .int c, .str r] H Q E := by
  refine ⟨x, wh, S, τ, .int i, .int f, .int c, .str r, rfl, hS, ⟨.int _, .int _, .int _, .str _⟩, livg eT, fun i' T' e1 e2 => ?_⟩
  obtain ⟨rfl, rfl⟩ := only eT e1 e2
  refine ⟨noR f0 (by omega), fun f' ef _ _ => ?_⟩
  have e1 := V.int.inj ef
  subst e1
  refine ⟨noR c0 (by omega), fun c' ec _ _ => ?_⟩
  have e1 := V.int.inj ec
  subst e1
  refine ⟨fun z => absurd (hr.symm.trans z) (by decide), fun r' er _ => ?_⟩
  have e1 := V.str.inj er
  subst e1
  exact ⟨fun n n0 n1 nm _ => absurd ((all n n0 n1).symm.trans nm) (by decide), fun _ => k⟩
theorem use_flag {x1 x2 x3 : V} (hS : Sr A H x wh S τ) (eT : S.tabs i = some T) (f0 : 0 ≤ f) (c0 : 1 ≤ c) (fc : f + c ≤ 512) (a1 : AnyV H x1) (a2 : AnyV H x2) (a3 : AnyV H x3) (o1 : okF x1 = true) (o2 : okF x2 = true) (o3 : okF x3 = true) (all : ∀ j, f ≤ j → j < f + c → mpd T j = true)
    (k : ∀ H' τ', Go τ H τ' H' → Sr A H' x wh (mpS S i T f c (flgG x1 x2 x3)) τ' → Q .non H') : spFlag A [.ref x, .int i, .int f, .int c, x1, x2, x3] H Q E := by
  refine ⟨x, wh, S, τ, .int i, .int f, .int c, x1, x2, x3, rfl, hS, ⟨.int _, .int _, .int _, a1, a2, a3⟩, livg eT, fun i' T' e1 e2 => ?_⟩
  obtain ⟨rfl, rfl⟩ := only eT e1 e2
  refine ⟨noR f0 (by omega), fun f' ef _ _ => ?_⟩
  have e1 := V.int.inj ef
  subst e1
  refine ⟨noR c0 (by omega), fun c' ec _ _ => ?_⟩
  have e1 := V.int.inj ec
  subst e1
  refine ⟨fun z => absurd (o1.symm.trans z) (by decide), fun _ => ⟨fun z => absurd (o2.symm.trans z) (by decide), fun _ => ⟨fun z => absurd (o3.symm.trans z) (by decide), fun _ => ⟨fun n n0 n1 nm _ => absurd ((all n n0 n1).symm.trans nm) (by decide), fun _ => k⟩⟩⟩⟩
end
def spChanged (A : Adr) : Sp := fun vs H Q _ => ∃ (W : Wo) (S : Sys) (τ : Tm) (ρ : Addr → Option Int) (M : Mo) (kvs : List (Key × V)) (o p : Int) (B m : Nat) (i : Int) (L : Tb), vs = [.ref W.a, .ref W.x, .ref W.sp, .int i] ∧
  Lw A W H S τ ρ M kvs o p B m ∧ Lk S M ∧ M i = some L ∧ m < 900 ∧ B < 900000 ∧
  ∀ (H' : Hp) (S' : Sys) (τ' : Tm) (ρ' : Addr → Option Int) (M' : Mo) (kvs' : List (Key × V)), S'.o = S.o → S'.p = S.p → Lw A W H' S' τ' ρ' M' kvs' o p (B + 9) (m + 1) → Lk S' M' → Q .non H'
theorem ok__law_changed (G : Txt K mg A) : FnOk P w K mg base CX0 7 A.a__law_changed A.fd__law_changed p__law_changed (spChanged A) := by
  obtain ⟨mv1, hF1⟩ := flag_k1 G
  obtain ⟨mv2, hF2⟩ := flag_k2 G
  obtain ⟨mv3, hF3⟩ := flag_k3 G
  refine G.f__law_changed.ok sc__law_changed (fun vs H Q E h => ?_) (fun cdv A' outer s H vs Q E hr h => ?_)
  · obtain ⟨W, S, τ, ρ, M, kvs, o, p, B, m, i, L, rfl, _⟩ := h
    rfl
  · obtain ⟨W, S, τ, ρ, M, kvs, o, p, B, m, i, L, rfl, hL, hk, eM, hm, hB, k⟩ := h
    refine ⟨_, (pss_cons (ps_set (i := 4) sc__law_changed.nd rfl (Or.inr rfl) (pe_dget (hu_of hr) (pv 2) (pv 3) (fun _ _ => rfl)))
  (pss_cons (ps_asg (pe_call (ok__law_range G) (hr.mono (by decide)) rfl G.g__law_range G.k__law_range G.bi__law_range .nil pass0 (pa_cons (pv 0) (pa_cons (pv 4) pa_nil))) (pg_tup rfl (pgs_cons (pg_name (i := 5) sc__law_changed.nd rfl (Or.inl rfl)) (pgs_cons (pg_name (i := 6) sc__law_changed.nd rfl (Or.inl rfl)) pgs_nil))))
  (pss_cons (ps_if (pt_cmpR (op_neD (hu64 hr)) (pe_lc (own := [("page", 7)]) (g := gName 7) rfl sc__law_changed.nd (pi_range2 rfl G.b_range (pa_cons (pv 5) (pa_cons (pe_op op_add (pv 5) (pv 6)) pa_nil))) (blkOk_by (own := [("page", 7)]) (N := n__law_changed) (sc := defScope s__law_changed) (by decide +kernel)) (fun _ _ _ _ _ => pg_name (i := 7) sc__law_changed.nd rfl (Or.inl rfl)) (fun _ _ _ _ _ => pts_one (pt_cmp (pc_dnotin (hu_of hr) (pv 7) (pv 4)))) (fun _ _ _ _ _ => (pv 7))) (pe_lst pa_nil) (nomark _)) (pss_one ps_retN) pss_nil)
  (pss_cons (ps_set (i := 8) sc__law_changed.nd rfl (Or.inl rfl) (pe_call (ok__law_drawI G) (hr.mono (by decide)) rfl G.g__law_draw G.k__law_draw G.bi__law_draw .nil pass0 (pa_cons (pv 0) (pa_cons pe_int pa_nil))))
  (pss_cons (ps_set (i := 9) sc__law_changed.nd rfl (Or.inl rfl) (pe_call (ok__law_oneI G) (hr.mono (by decide)) rfl G.g__law_one G.k__law_one G.bi__law_one .nil pass0 (pa_cons (pv 0) (pa_cons (pe_lst (pa_cons pe_str (pa_cons pe_str (pa_cons pe_str pa_nil)))) pa_nil))))
  (pss_cons (ps_set (i := 10) sc__law_changed.nd rfl (Or.inr rfl) (pe_call (ok__law_oneI G) (hr.mono (by decide)) rfl G.g__law_one G.k__law_one G.bi__law_one .nil pass0 (pa_cons (pv 0) (pa_cons (pe_lst (pa_cons pe_str (pa_cons pe_str (pa_cons pe_str pa_nil)))) pa_nil))))
  (pss_cons (ps_set (i := 11) sc__law_changed.nd rfl (Or.inl rfl) (pe_cmpR op_eq (pe_call (ok__law_drawI G) (hr.mono (by decide)) rfl G.g__law_draw G.k__law_draw G.bi__law_draw .nil pass0 (pa_cons (pv 0) (pa_cons pe_int pa_nil))) pe_int (nomark _)))
  (pss_cons (ps_set (i := 12) sc__law_changed.nd rfl (Or.inl rfl) (pe_call (ok__law_drawI G) (hr.mono (by decide)) rfl G.g__law_draw G.k__law_draw G.bi__law_draw .nil pass0 (pa_cons (pv 0) (pa_cons (pe_op op_sub pe_int (pv 6)) pa_nil))))
  (pss_cons (ps_if (pt_cmpR op_eq (pv 8) pe_int (nomark _)) (pss_one (ps_expr (pe_call (ok_protect G) (hr.mono (by decide)) rfl G.g_protect G.k_protect G.bi_protect .nil passL (pa_cons (pv 1) (pa_cons (pv 3) (pa_cons (pv 5) (pa_cons (pv 6) (pa_cons (pv 9) pa_nil)))))))) (pss_one (ps_if (PW.pt (pw_and (pt_cmpR op_eq (pv 8) pe_int (nomark _)) (pw_and1 (pt_cmpR op_eq (pv 10) pe_str (nomark _))))) (pss_one (ps_expr (pe_callN (ok_flag G) (hr.mono (by decide)) rfl G.g_flag G.k_flag hF1 passL (pa_cons (pv 1) (pa_cons (pv 3) (pa_cons (pv 5) (pa_cons (pv 6) pa_nil)))) (pk_cons (pv 11) pk_nil)))) (pss_one (ps_if (PW.pt (pw_and (pt_cmpR op_eq (pv 8) pe_int (nomark _)) (pw_and1 (pt_cmpR op_eq (pv 10) pe_str (nomark _))))) (pss_one (ps_expr (pe_callN (ok_flag G) (hr.mono (by decide)) rfl G.g_flag G.k_flag hF2 passL (pa_cons (pv 1) (pa_cons (pv 3) (pa_cons (pv 5) (pa_cons (pv 6) pa_nil)))) (pk_cons (pv 11) (pk_cons pe_non pk_nil))))) (pss_one (ps_if (pt_cmpR op_eq (pv 8) pe_int (nomark _)) (pss_one (ps_expr (pe_callN (ok_flag G) (hr.mono (by decide)) rfl G.g_flag G.k_flag hF3 passL (pa_cons (pv 1) (pa_cons (pv 3) (pa_cons (pv 5) (pa_cons (pv 6) pa_nil)))) (pk_cons (pv 11) pk_nil)))) (pss_one (ps_if (pt_cmpR op_ge (pe_callB call_abs (by rfl) G.b_abs (by decide +kernel) (pa_cons (pe_op op_sub (pv 12) (pv 5)) pa_nil)) (pv 6) (nomark _)) (pss_cons (ps_expr (pe_call (ok_move G) (hr.mono (by decide)) rfl G.g_move G.k_move G.bi_move .nil passL (pa_cons (pv 1) (pa_cons (pv 3) (pa_cons (pv 5) (pa_cons (pv 6) (pa_cons (pv 12) pa_nil)))))))
  (pss_one (ps_for PassesOwn.never rfl (pi_range1 rfl G.b_range (pa_cons (pv 6) pa_nil)) (pg_name (i := 13) sc__law_changed.nd rfl (Or.inl rfl)) (pss_one (ps_dput (hu_of hr) (pv 4) (pe_op op_add (pv 12) (pv 13)) (pe_dpop1 (pv 4) (pe_op op_add (pv 5) (pv 13)) ⟨rfl, rfl, rfl, rfl⟩) rfl))))) pss_nil)))))))))
  (pss_one (ps_for PassesOwn.never rfl (pi_range2 rfl G.b_range (pa_cons (pv 5) (pa_cons (pe_op op_add (pv 5) (pv 6)) pa_nil))) (pg_name (i := 7) sc__law_changed.nd rfl (Or.inl rfl)) (pss_one (ps_if (pt_cmpR op_lt (pv 8) pe_int (nomark _)) (pss_cons (ps_set (i := 14) sc__law_changed.nd rfl (Or.inl rfl) (pe_dget (hu_of hr) (pv 4) (pv 7) (fun _ _ => rfl)))
  (pss_cons (ps_set (i := 15) sc__law_changed.nd rfl (Or.inl rfl) (pe_callB cr_sortedS (by rfl) G.b_sorted (by decide +kernel) (pa_cons (pe_op op_cat (pe_lc (own := [("one", 16)]) (g := gName 16) rfl sc__law_changed.nd (pi_list (pe_ix ix_tup (pv 14) pe_int (fun _ _ => rfl))) (blkOk_by (own := [("one", 16)]) (N := n__law_changed) (sc := defScope s__law_changed) (by decide +kernel)) (fun _ _ _ _ _ => pg_name (i := 16) sc__law_changed.nd rfl (Or.inl rfl)) (fun _ _ _ _ _ => pts_one (pt_cmpR op_ne (pv 16) (pv 10) (nomark _))) (fun _ _ _ _ _ => (pv 16))) (pe_slice sl_list (pe_lst (pa_cons (pv 10) pa_nil)) po_none (po_some (pe_callTy call_int1 (by rfl) G.b_int (by decide +kernel) (pa_cons (pv 11) pa_nil))))) pa_nil)))
  (pss_one (ps_dput (hu_of hr) (pv 4) (pv 7) (pe_ix ix_list (pe_lst (pa_cons (pe_op (r := rCatT K) op_catT (pe_tup (pa_cons (pv 9) pa_nil)) (pe_slice sl_tup (pv 14) (po_some pe_int) po_none)) (pa_cons (pe_op (r := rCatT K) op_catT (pe_slice sl_tup (pv 14) po_none (po_some pe_int)) (pe_tup (pa_cons (pv 15) pa_nil))) pa_nil))) (pv 8) (fun _ _ => rfl)) rfl)))) pss_nil))))))))))))), ?_⟩
    obtain ⟨d, hv, hd, sr⟩ := hL.space eM
    have eT : S.tabs i = some L := (hk i).trans eM
    have tkeep : ∀ {S' : Sys}, S'.p = S.p → S'.p ≤ 1 + (m + 1) := fun e => by have := hL.bp; omega
    have okeep : ∀ {S' : Sys}, S'.o = S.o → S'.o ≤ ((m + 1 : Nat) : Int) := fun e => by have := hL.bo; omega
    refine ⟨_, rfl, _, rfl, W.sp, .ref d, rfl, (by rw [← hv]; exact DGet.k (k := Sum.inl i) hL.hs), ?_⟩
    refine ⟨_, rfl, _, rfl, W.a, d, B, L, rfl, hL.wl, by omega, sr, fun f c t H1 f0 c0 c1 fc b1 w1 ht => ?_⟩
    have L1 := hL.keep w1 b1
    refine ⟨t, _, rfl, SqT.of ht, rfl, _, _, rfl, _, _, rfl, rfl, ?_⟩
    have ec : ((c.toNat : Nat) : Int) = c := by omega
    -- are all pages mapped?
    refine ⟨_, rfl, _, rfl, _, rfl, _, _, rfl, rfl, f, f + c, rfl, ⟨by omega, by omega, by omega, by omega⟩, fun D hD => ?_⟩
    have fc' : (f + c - f).toNat = c.toNat := by omega
    refine lc_it walk_range (fun j Z => Same H1 Z ∧ ∃ acc : List Int, Z D = some (.lst (acc.map V.int)) ∧ acc.length ≤ j ∧ (acc = [] ↔ ∀ k : Nat, k < j → (L (f + (k : Int))).isSome = true))
      ⟨Same.new hD, [], upd_same, Nat.le_refl _, ⟨fun _ k hk => absurd hk (Nat.not_lt_zero k), fun _ => rfl⟩⟩ (fun _ _ _ _ => True.intro) ?_ ?_
    · rintro j y Z1 Z2 hj ⟨sz, acc, zD, la, hac⟩ ⟨rfl, rfl⟩
      rw [fc'] at hj
      obtain ⟨z, g, hz, dg, hg, bd, zl, zs⟩ := (L1.same sz).dict eM hv
      refine ⟨rfl, ?_⟩
      refine ⟨_, rfl, _, rfl, d, _, rfl, DGet.k (k := Sum.inl (f + (j : Nat))) hz, _, rfl, ?_⟩
      rw [zs]
      have step : (∀ k : Nat, k < j + 1 → (L (f + (k : Int))).isSome = true) ↔ (∀ k : Nat, k < j → (L (f + (k : Int))).isSome = true) ∧ (L (f + (j : Int))).isSome = true := by
        constructor
        · exact fun h => ⟨fun k hk => h k (by omega), h j (Nat.lt_succ_self j)⟩
        · rintro ⟨h1, h2⟩ k hk
          by_cases e : k = j
          · rw [e]; exact h2
          · exact h1 k (by omega)
      refine iteB (fun e => ?_) (fun e => ?_)
      · refine ⟨_, rfl, _, zD, Nat.lt_of_le_of_lt (by rw [List.length_map]; omega : (acc.map V.int).length ≤ 10000) (by decide), fun b o ho => ?_, acc ++ [f + (j : Int)], by rw [upd_same, List.map_append]; rfl, by rw [List.length_append]; exact Nat.succ_le_succ la, ?_⟩
        · rw [upd_ne (ne_of_none ho hD)]
          exact sz _ _ ho
        · rw [step]
          constructor
          · intro h; exact absurd h (by simp)
          · rintro ⟨_, h⟩
            rw [h] at e
            cases e
      · refine ⟨sz, acc, zD, by omega, ?_⟩
        rw [step, hac]
        have e' : (L (f + (j : Int))).isSome = true := by
          cases h : (L (f + (j : Int))).isSome with
          | true => rfl
          | false => rw [h] at e; cases e
        exact ⟨fun h => ⟨h, e'⟩, fun h => h.1⟩
    rintro Z ⟨sz, acc, zD, la, hac⟩
    rw [fc'] at la hac
    refine ⟨Nat.zero_le _, fun p1 hp1 => ?_⟩
    have s1 := sz.trans (Same.new (o := .lst []) hp1)
    refine ⟨.list (acc.map .int), .list [], .lst (SqL.of (Same.new hp1 _ _ zD)) (dp_ints acc), .lst (SqL.of upd_same) .nil, shaped_ints' acc, shaped_ints' [], _, rfl, ?_⟩
    rw [eqv_nil]
    have L2 := L1.same s1
    generalize upd Z p1 (.lst []) = H2 at *
    refine iteB (fun e => ?_) (fun e => ?_)
    · exact k _ S τ ρ M kvs rfl rfl (L2.up.mono (by omega) (by omega)) hk
    have ac0 : acc = [] := by
      cases acc with
      | nil => rfl
      | cons _ _ => cases e
    have all : ∀ j, f ≤ j → j < f + c → (L j).isSome = true := fun j j0 j1 => isSome_all hac ac0 j0 (by rw [ec]; exact j1)
    clear e hac ac0 la zD sz s1 hp1 L1 b1 w1 ht sr
    -- the draws
    refine ⟨_, rfl, ?_⟩
    show spDrawI [.ref W.a, .int 3] H2 _ _
    refine L2.drawQ (by omega) (by decide) (by decide) fun way H3 y0 y1 b3 L3 => ?_
    refine ⟨_, rfl, (by show 3 ≤ sizeLine; decide), fun l4 hl4 => ?_⟩
    show spOneI K [.ref W.a, .ref l4] (upd H3 l4 (.lst [.str "none", .str "r", .str "rw"])) _ _
    refine L3.oneQ (by omega) hl4 (by show 0 < 3; decide) (by show 3 < 1000; decide) fun v4 H4 hv4 b4 L4 => ?_
    obtain ⟨r, rfl, hr1⟩ : ∃ r, v4 = V.str r ∧ isW RTS (.str r) = true := by
      simp only [List.mem_cons, List.not_mem_nil, or_false] at hv4
      rcases hv4 with rfl | rfl | rfl <;> exact ⟨_, rfl, by decide +kernel⟩
    refine ⟨_, rfl, (by show 3 ≤ sizeLine; decide), fun l5 hl5 => ?_⟩
    show spOneI K [.ref W.a, .ref l5] (upd H4 l5 (.lst [.str "merge", .str "stay", .str "wipe"])) _ _
    refine L4.oneQ (by omega) hl5 (by show 0 < 3; decide) (by show 3 < 1000; decide) fun v5 H5 hv5 b5 L5 => ?_
    obtain ⟨nm, rfl, hnm⟩ : ∃ n, v5 = V.str n ∧ n ∈ nm3 := by
      simp only [List.mem_cons, List.not_mem_nil, or_false] at hv5
      rcases hv5 with rfl | rfl | rfl <;> exact ⟨_, rfl, by simp⟩
    refine ⟨_, rfl, ?_⟩
    show spDrawI [.ref W.a, .int 2] H5 _ _
    refine L5.drawQ (by omega) (by decide) (by decide) fun bs H6 _ _ b6 L6 => ⟨rfl, ?_⟩
    obtain ⟨b, eb⟩ : ∃ b, b = decide (V.int bs = V.int 0) := ⟨_, rfl⟩
    rw [← eb]
    refine ⟨_, rfl, _, rfl, _, _, rfl, rfl, ?_⟩
    show spDrawI [.ref W.a, .int (513 - c)] H6 _ _
    refine L6.drawQ (by omega) (by omega) (by omega) fun to H7 t0 t1 b7 L7 => ?_
    clear L2 L3 L4 L5 L6 b3 b4 b5 b6 b7 hv4 hv5 hl4 hl5 eb
    have allM : ∀ j, f ≤ j → j < f + c → mpd L j = true := all
    -- the step
    dsimp only [gName, tSeq]
    refine tIfS_join (fun σ' H' => (∃ c13, σ' = [some (.ref W.a), some (.ref W.x), some (.ref W.sp), some (.int i), some (.ref d), some (.int f), some (.int c), none, some (.int way), some (.str r), some (.str nm), some (.bl b), some (.int to), c13, none, none, none]) ∧
      ((way < 2 ∧ ∃ τ', Lw A W H' (mpS S i L f c (chF way r nm b)) τ' ρ M kvs o p (B + 9) (m + 1)) ∨ (2 ≤ way ∧ ∃ S' τ' M', S'.o = S.o ∧ S'.p = S.p ∧ Lw A W H' S' τ' ρ M' kvs o p (B + 9) (m + 1) ∧ Lk S' M'))) ?_ (fun D' dn _ _ _ => ?_)
    · -- the rows
      rintro _ H8 ⟨⟨c13, rfl⟩, hcase⟩
      refine ⟨_, rfl, _, rfl, _, rfl, _, _, rfl, rfl, f, f + c, rfl, ⟨by omega, by omega, by omega, by omega⟩, for_range (lo := f) (n := (f + c - f).toNat) (fun j σ Z => (∃ c7 c14 c15, σ = [some (.ref W.a), some (.ref W.x), some (.ref W.sp), some (.int i), some (.ref d), some (.int f), some (.int c), c7, some (.int way), some (.str r), some (.str nm), some (.bl b), some (.int to), c13, c14, c15, none]) ∧
        ((way < 2 ∧ ∃ τ', Lw A W Z (mpS S i L f c (chF way r nm b)) τ' ρ (setM M i (some (mpT L f (j : Nat) (chF way r nm b)))) kvs o p (B + 9) (m + 1)) ∨ (2 ≤ way ∧ ∃ S' τ' M', S'.o = S.o ∧ S'.p = S.p ∧ Lw A W Z S' τ' ρ M' kvs o p (B + 9) (m + 1) ∧ Lk S' M')))
        ⟨⟨_, _, _, rfl⟩, ?_⟩ ?_ ?_⟩
      · rcases hcase with ⟨h1, τ', h2⟩ | h
        · exact .inl ⟨h1, τ', h2.cong (by rw [mpT_0, setM_id eM])⟩
        · exact .inr h
      · rintro j σ Z hj ⟨⟨c7, c14, c15, rfl⟩, hc⟩
        rw [fc'] at hj
        refine ⟨_, rfl, _, _, rfl, rfl, _, rfl, iteD (fun e => ?_) (fun e => ?_)⟩
        · obtain ⟨τ', LZ⟩ : ∃ τ', Lw A W Z (mpS S i L f c (chF way r nm b)) τ' ρ (setM M i (some (mpT L f (j : Nat) (chF way r nm b)))) kvs o p (B + 9) (m + 1) := by
            rcases hc with ⟨_, h⟩ | ⟨h, _⟩
            · exact h
            · omega
          obtain ⟨z, g, hz, dg, hg, bd, zl, zs⟩ := LZ.dict (setM_at _ _ _) hv
          obtain ⟨pg, epg⟩ : ∃ pg, L (f + (j : Int)) = some pg := Option.isSome_iff_exists.mp (all _ (by omega) (by omega))
          have epj : mpT L f (j : Int) (chF way r nm b) (f + (j : Int)) = some pg := by
            unfold mpT
            rw [if_neg (by omega), epg]
          have rel := hg (f + (j : Int))
          rw [epj] at rel
          obtain ⟨rv, erv, wf, hrow⟩ : ∃ rv, g (f + (j : Int)) = some rv ∧ WfP pg ∧ RwR Z rv pg := by
            cases e : g (f + (j : Int)) with
            | none => rw [e] at rel; exact rel.elim
            | some rv => rw [e] at rel; exact ⟨rv, rfl, rel.1, rel.2⟩
          have hval : valV z (Sum.inl (f + (j : Int))) = some rv := by rw [dg.val, erv]
          obtain ⟨t1, sv, fa, rfl, ht1, hsv, hfa⟩ := id hrow
          refine ⟨_, rfl, _, rfl, d, _, rfl, (by rw [← hval]; exact DGet.k (k := Sum.inl (f + (j : Int))) hz), ?_⟩
          -- flags
          refine ⟨_, rfl, t1, _, _, _, rfl, rfl, SqT.of ht1, rfl, fa, rfl, ⟨_, SqL.of hfa⟩, fun D2 hD2 => ?_⟩
          refine lc_it (walk_list (K := K) (a := fa) (xs := (flL pg.fl).map V.str)) (fun jj X => Same Z X ∧ X D2 = some (.lst ((((flL pg.fl).take jj).filter fun x => !decide (x = nm)).map V.str))) ⟨Same.new hD2, upd_same⟩ (fun _ X _ y => SqL.of (y.1 _ _ hfa)) ?_ ?_
          · rintro jj y X _ hjj ⟨sX, xD⟩ ⟨rfl, hy⟩
            obtain ⟨u, hu, rfl⟩ : ∃ u, (flL pg.fl)[jj]? = some u ∧ V.str u = y := by
              rw [List.getElem?_map] at hy
              cases e : (flL pg.fl)[jj]? with
              | none => rw [e] at hy; cases hy
              | some u => rw [e] at hy; exact ⟨u, rfl, Option.some.inj hy⟩
            have lf : (flL pg.fl).length ≤ 3 := by
              have := flags_len pg.fl
              rw [List.length_map] at this
              exact this
            have ed : decide (V.str u = V.str nm) = decide (u = nm) := by
              rw [decide_eq_decide]
              exact ⟨V.str.inj, fun e => by rw [e]⟩
            refine ⟨rfl, ?_⟩
            refine ⟨_, rfl, _, rfl, rfl, _, rfl, ?_⟩
            rw [ed]
            have tk := take_succ hu
            refine iteB (fun e => ?_) (fun e => ?_)
            · refine ⟨_, rfl, _, xD, Nat.lt_of_le_of_lt (?_ : _ ≤ 10000) (by decide), fun b' o' ho => ?_, ?_⟩
              · rw [List.length_map]
                have h1 := List.length_filter_le (fun x => !decide (x = nm)) ((flL pg.fl).take jj)
                have h2 := List.length_take_le jj (flL pg.fl)
                have h3 : ((flL pg.fl).take jj).length ≤ (flL pg.fl).length := by rw [List.length_take]; omega
                omega
              · rw [upd_ne (ne_of_none ho hD2)]
                exact sX _ _ ho
              · rw [upd_same, tk, List.filter_append, List.map_append]
                have e1 : List.filter (fun x => !decide (x = nm)) [u] = [u] := by
                  rw [List.filter_cons, if_pos e]
                  rfl
                rw [e1]
                rfl
            · refine ⟨sX, ?_⟩
              rw [xD, tk, List.filter_append]
              have e1 : List.filter (fun x => !decide (x = nm)) [u] = [] := by
                rw [List.filter_cons, if_neg (by rw [e]; exact Bool.false_ne_true)]
                rfl
              rw [e1, List.append_nil]
          · rintro X ⟨sX, xD⟩
            rw [List.length_map, List.take_length] at xD
            refine ⟨_, rfl, (by show 1 ≤ sizeLine; decide), fun p1 hp1 => ?_⟩
            have s1 := Same.new (o := .lst [V.str nm]) hp1
            refine ⟨_, rfl, .inr ⟨_, rfl, _, rfl, p1, _, rfl, SqL.of upd_same, fun p2 hp2 => ?_⟩⟩
            rw [cut_one]
            have s2 := s1.trans (Same.new (o := .lst ((if b = true then ([nm] : List Str) else []).map V.str)) hp2)
            refine ⟨D2, p2, _, _, rfl, rfl, s2 _ _ xD, upd_same, Nat.le_trans (?_ : _ ≤ 10000) (by decide), fun p3 hp3 => ?_⟩
            · have h1 := List.length_filter_le (fun x => !decide (x = nm)) (flL pg.fl)
              have lf := flags_len pg.fl
              rw [List.length_map] at lf
              rw [List.length_map, List.length_map]
              cases b <;> simp <;> omega
            rw [← List.map_append]
            have s3 := s2.trans (Same.new (o := .lst ((((flL pg.fl).filter fun x => !decide (x = nm)) ++ (if b = true then [nm] else [])).map V.str)) hp3)
            refine ⟨p3, _, rfl, SqL.of upd_same, ?_, fun ys p4 hperm hso hp4 => ?_⟩
            · have lf := flags_len (setFl nm b pg.fl)
              rw [List.length_map, ← (perm_fl b pg.fl nm hnm).length_eq] at lf
              omega
            have ey : ys = flL (setFl nm b pg.fl) := sorted_fl _ ys (hperm.trans (perm_fl b pg.fl nm hnm)) hso
            rw [ey]
            have s4 := s3.trans (Same.new (o := .lst ((flL (setFl nm b pg.fl)).map V.str)) hp4)
            have sZ4 := sX.trans s4
            have h4 : (upd (upd (upd (upd X p1 (.lst [V.str nm])) p2 (.lst ((if b = true then ([nm] : List Str) else []).map V.str))) p3 (.lst ((((flL pg.fl).filter fun x => !decide (x = nm)) ++ (if b = true then [nm] else [])).map V.str))) p4 (.lst ((flL (setFl nm b pg.fl)).map V.str))) p4 = some (.lst ((flL (setFl nm b pg.fl)).map V.str)) := upd_same
            generalize (upd (upd (upd (upd X p1 (.lst [V.str nm])) p2 (.lst ((if b = true then ([nm] : List Str) else []).map V.str))) p3 (.lst ((((flL pg.fl).filter fun x => !decide (x = nm)) ++ (if b = true then [nm] else [])).map V.str))) p4 (.lst ((flL (setFl nm b pg.fl)).map V.str))) = Z4 at *
            clear hp1 hp2 hp3 hp4 s1 s2 s3 s4 hperm hso ey
            have ht4 := sZ4 _ _ ht1
            -- the new row
            refine ⟨_, rfl, (by show 1 ≤ sizeLine; decide), fun q1 hq1 => ?_⟩
            have u1 := Same.new (o := .tup [V.str r]) hq1
            refine ⟨_, rfl, _, rfl, t1, _, rfl, SqT.of (u1 _ _ ht4), (by show ¬ (HT.sIx 5 0 (some 1) = 0 ∧ HT.sIx 5 5 none = 5); decide), fun q2 hq2 => ?_⟩
            have u2 := Same.new (o := .tup (cutV [.str pg.r, .bl pg.sh, sv, ixV pg.ix, .ref fa] (some 1) none)) hq2
            have w1 := u1.trans u2
            have a1 : (upd (upd Z4 q1 (.tup [V.str r])) q2 (.tup (cutV [.str pg.r, .bl pg.sh, sv, ixV pg.ix, .ref fa] (some 1) none))) q1 = some (.tup [V.str r]) := u2 _ _ upd_same
            have a2 : (upd (upd Z4 q1 (.tup [V.str r])) q2 (.tup (cutV [.str pg.r, .bl pg.sh, sv, ixV pg.ix, .ref fa] (some 1) none))) q2 = some (.tup [.bl pg.sh, sv, ixV pg.ix, .ref fa]) := upd_same
            generalize (upd (upd Z4 q1 (.tup [V.str r])) q2 (.tup (cutV [.str pg.r, .bl pg.sh, sv, ixV pg.ix, .ref fa] (some 1) none))) = Z5 at *
            refine ⟨q1, q2, _, _, rfl, rfl, SqT.of a1, SqT.of a2, by simp, (by show 1 + 4 ≤ sizeLine; decide), fun h => absurd h (by simp), fun _ q3 hq3 => ?_⟩
            have u3 := Same.new (o := .tup ([V.str r] ++ [.bl pg.sh, sv, ixV pg.ix, .ref fa])) hq3
            have w3 := w1.trans u3
            have a3 : (upd Z5 q3 (.tup ([V.str r] ++ [.bl pg.sh, sv, ixV pg.ix, .ref fa]))) q3 = some (.tup [V.str r, .bl pg.sh, sv, ixV pg.ix, .ref fa]) := upd_same
            generalize (upd Z5 q3 (.tup ([V.str r] ++ [.bl pg.sh, sv, ixV pg.ix, .ref fa]))) = Z6 at *
            refine ⟨_, rfl, _, rfl, t1, _, rfl, SqT.of (w3 _ _ ht4), (by show ¬ (HT.sIx 5 0 none = 0 ∧ HT.sIx 5 5 (some 4) = 5); decide), fun q4 hq4 => ?_⟩
            have u4 := Same.new (o := .tup (cutV [.str pg.r, .bl pg.sh, sv, ixV pg.ix, .ref fa] none (some 4))) hq4
            refine ⟨_, rfl, (by show 1 ≤ sizeLine; decide), fun q5 hq5 => ?_⟩
            have u5 := Same.new (o := .tup [V.ref p4]) hq5
            have w5 := (w3.trans u4).trans u5
            have a5 : (upd (upd Z6 q4 (.tup (cutV [.str pg.r, .bl pg.sh, sv, ixV pg.ix, .ref fa] none (some 4)))) q5 (.tup [V.ref p4])) q4 = some (.tup [.str pg.r, .bl pg.sh, sv, ixV pg.ix]) := u5 _ _ upd_same
            have a6 : (upd (upd Z6 q4 (.tup (cutV [.str pg.r, .bl pg.sh, sv, ixV pg.ix, .ref fa] none (some 4)))) q5 (.tup [V.ref p4])) q5 = some (.tup [V.ref p4]) := upd_same
            have b5 := (u4.trans u5) _ _ a3
            generalize (upd (upd Z6 q4 (.tup (cutV [.str pg.r, .bl pg.sh, sv, ixV pg.ix, .ref fa] none (some 4)))) q5 (.tup [V.ref p4])) = Z7 at *
            refine ⟨q4, q5, _, _, rfl, rfl, SqT.of a5, SqT.of a6, by simp, (by show 4 + 1 ≤ sizeLine; decide), fun h => absurd h (by simp), fun _ q6 hq6 => ?_⟩
            have u6 := Same.new (o := .tup ([.str pg.r, .bl pg.sh, sv, ixV pg.ix] ++ [V.ref p4])) hq6
            have a7 : (upd Z7 q6 (.tup ([.str pg.r, .bl pg.sh, sv, ixV pg.ix] ++ [V.ref p4]))) q6 = some (.tup [.str pg.r, .bl pg.sh, sv, ixV pg.ix, .ref p4]) := upd_same
            refine ⟨(by show 2 ≤ sizeLine; decide), fun q7 hq7 => ?_⟩
            have u7 := Same.new (o := .lst [V.ref q3, V.ref q6]) hq7
            have w7 := (w5.trans u6).trans u7
            have c3 := (u6.trans u7) _ _ b5
            have c6 := u7 _ _ a7
            have sAll := sZ4.trans w7
            have LZ8 := LZ.same sAll
            have hz8 := sAll _ _ hz
            have hsv8 := hsv.kt (Kt.same sAll)
            have hfa8 := sAll _ _ hfa
            have h48 := w7 _ _ h4
            have ew : way = 0 ∨ way = 1 := by omega
            obtain ⟨row, hat, hrw⟩ : ∃ row, atI [V.ref q3, V.ref q6] way = some row ∧ RwR (upd (upd Z7 q6 (.tup ([.str pg.r, .bl pg.sh, sv, ixV pg.ix] ++ [V.ref p4]))) q7 (.lst [V.ref q3, V.ref q6])) row (chF way r nm b pg) := by
              rcases ew with rfl | rfl
              · exact ⟨_, rfl, q3, sv, fa, rfl, c3, hsv8, hfa8⟩
              · exact ⟨_, rfl, q6, sv, p4, rfl, c6, hsv8, h48⟩
            refine ⟨_, rfl, q7, _, way, row, rfl, rfl, SqL.of upd_same, hat, ?_⟩
            refine ⟨_, rfl, _, rfl, d, _, rfl, DPut.k (k := Sum.inl (f + (j : Int))) hz8 (Nat.lt_of_le_of_lt (by omega : z.length ≤ 10000) (by decide)), ⟨_, _, _, rfl⟩, .inl ⟨e, τ', ?_⟩⟩
            exact LZ8.add hd hv hz8 (by omega) (by omega) (chF_wf wf (okRts hr1)) hrw (mpT_succ epg)
        · refine ⟨⟨_, _, _, rfl⟩, ?_⟩
          rcases hc with ⟨h, _⟩ | h
          · exact absurd h e
          · exact .inr h
      · rintro σ Z ⟨⟨c7, c14, c15, rfl⟩, hc⟩
        rw [fc', ec] at hc
        rcases hc with ⟨_, τ', LZ⟩ | ⟨_, S', τ', M', e1, e2, LZ, hk'⟩
        · exact k Z (mpS S i L f c (chF way r nm b)) _ _ _ _ rfl rfl LZ (hk.put (T := some (mpT L f c (chF way r nm b))) (fun j => rfl))
        · exact k Z S' _ _ _ _ e1 e2 LZ hk'
    · -- which step
      have d5 : ∀ {n : Str}, decide (V.str nm = V.str n) = decide (nm = n) := fun {n} => by
        rw [decide_eq_decide]
        exact ⟨V.str.inj, fun e => by rw [e]⟩
      refine ⟨_, rfl, rfl, _, rfl, ?_⟩
      rw [decI]
      refine iteD (fun e0 => ?_) (fun e0 => ?_)
      · -- protect
        refine ⟨_, rfl, _, rfl, _, rfl, _, rfl, _, rfl, ?_⟩
        walk_at "ni"
        refine use_prot L7.sy eT f0 c0 fc hr1 allM fun H8 τ8 g8 S8 => ?_
        refine dn _ _ ⟨⟨_, rfl⟩, .inl ⟨by omega, τ8, ?_⟩⟩
        rw [chF_prt e0]
        exact L7.go (m' := m + 1) g8 S8 (tkeep rfl) (okeep rfl) rfl
      refine tIfS_s (b := decide (way = 1) && decide (nm = "merge")) (fun Q' q => ?_) (fun e H8 s8 => ?_) (fun e1 H8 s8 => ?_)
      · refine ⟨_, rfl, rfl, _, rfl, ?_⟩
        rw [decI]
        refine iteB (fun e => ?_) (fun e => ?_)
        · rw [e, Bool.true_and] at q
          refine ⟨_, rfl, rfl, _, rfl, ?_⟩
          rw [d5]
          exact q _ fun _ _ h => h
        · rw [e, Bool.false_and] at q
          exact q _ fun _ _ h => h
      · rw [Bool.and_eq_true, decide_eq_true_eq, decide_eq_true_eq] at e
        have L8 := L7.same s8
        refine ⟨_, rfl, _, rfl, _, rfl, _, rfl, _, rfl, rfl, rfl, ?_⟩
        show spFlag A [.ref W.x, .int i, .int f, .int c, .bl b, .non, .non] H8 _ _
        refine use_flag L8.sy eT f0 c0 fc (.bl _) .non .non (by cases b <;> rfl) rfl rfl allM fun H9 τ9 g9 S9 => ?_
        refine dn _ _ ⟨⟨_, rfl⟩, .inl ⟨by omega, τ9, ?_⟩⟩
        rw [chF_flg e0 (fun f => by rw [e.2]; exact setFl_m b f)]
        exact L8.go (m' := m + 1) g9 S9 (tkeep rfl) (okeep rfl) rfl
      have L8 := L7.same s8
      refine tIfS_s (b := decide (way = 1) && decide (nm = "stay")) (fun Q' q => ?_) (fun e H9 s9 => ?_) (fun e2 H9 s9 => ?_)
      · refine ⟨_, rfl, rfl, _, rfl, ?_⟩
        rw [decI]
        refine iteB (fun e => ?_) (fun e => ?_)
        · rw [e, Bool.true_and] at q
          refine ⟨_, rfl, rfl, _, rfl, ?_⟩
          rw [d5]
          exact q _ fun _ _ h => h
        · rw [e, Bool.false_and] at q
          exact q _ fun _ _ h => h
      · rw [Bool.and_eq_true, decide_eq_true_eq, decide_eq_true_eq] at e
        have L9 := L8.same s9
        refine ⟨_, rfl, _, rfl, _, rfl, _, rfl, _, rfl, rfl, rfl, ?_⟩
        show spFlag A [.ref W.x, .int i, .int f, .int c, .non, .bl b, .non] H9 _ _
        refine use_flag L9.sy eT f0 c0 fc .non (.bl _) .non rfl (by cases b <;> rfl) rfl allM fun H10 τ10 g10 S10 => ?_
        refine dn _ _ ⟨⟨_, rfl⟩, .inl ⟨by omega, τ10, ?_⟩⟩
        rw [chF_flg e0 (fun f => by rw [e.2]; exact setFl_s b f)]
        exact L9.go (m' := m + 1) g10 S10 (tkeep rfl) (okeep rfl) rfl
      have L9 := L8.same s9
      refine ⟨_, rfl, rfl, _, rfl, ?_⟩
      rw [decI]
      refine iteD (fun e3 => ?_) (fun e3 => ?_)
      · have nw : nm = "wipe" := by
          rw [decide_eq_true e3, Bool.true_and] at e1 e2
          have n1 := of_decide_eq_false e1
          have n2 := of_decide_eq_false e2
          simp only [nm3, List.mem_cons, List.not_mem_nil, or_false] at hnm
          rcases hnm with h | h | h
          · exact absurd h n1
          · exact absurd h n2
          · exact h
        refine ⟨_, rfl, _, rfl, _, rfl, _, rfl, _, rfl, rfl, rfl, ?_⟩
        show spFlag A [.ref W.x, .int i, .int f, .int c, .non, .non, .bl b] H9 _ _
        refine use_flag L9.sy eT f0 c0 fc .non .non (.bl _) rfl rfl (by cases b <;> rfl) allM fun H10 τ10 g10 S10 => ?_
        refine dn _ _ ⟨⟨_, rfl⟩, .inl ⟨by omega, τ10, ?_⟩⟩
        rw [chF_flg e0 (fun f => by rw [nw]; exact setFl_w b f)]
        exact L9.go (m' := m + 1) g10 S10 (tkeep rfl) (okeep rfl) rfl
      have wy : way = 2 := by omega
      refine ⟨_, rfl, _, rfl, _, _, rfl, rfl, _, rfl, _, rfl, _, _, rfl, rfl, _, rfl, ?_⟩
      refine iteB (fun e4 => ?_) (fun e4 => ?_)
      · have ap : to + c ≤ f ∨ f + c ≤ to := by
          have e4' := of_decide_eq_true e4
          by_cases h : to - f < 0
          · rw [if_pos h] at e4'
            omega
          · rw [if_neg h] at e4'
            omega
        refine ⟨_, rfl, _, rfl, _, rfl, _, rfl, _, rfl, ?_⟩
        walk_at "ni"
        refine use_move L9.sy eT f0 c0 fc t0 (by omega) ap allM fun H10 τ10 g10 S10 => ?_
        have L10 := L9.go (m' := m + 1) g10 S10 (tkeep rfl) (okeep rfl) rfl
        refine ⟨_, rfl, c, rfl, by omega, by omega, for_range (lo := 0) (n := c.toNat) (fun j σ Z => (∃ c13, σ = [some (.ref W.a), some (.ref W.x), some (.ref W.sp), some (.int i), some (.ref d), some (.int f), some (.int c), none, some (.int way), some (.str r), some (.str nm), some (.bl b), some (.int to), c13, none, none, none]) ∧
          Lw A W Z (movS S i L f c to) τ10 ρ (setM M i (some fun n => if to ≤ n ∧ n < to + (j : Nat) then L (n - to + f) else if f ≤ n ∧ n < f + (j : Nat) then none else L n)) kvs o p (B + 9) (m + 1)) ⟨⟨_, rfl⟩, ?_⟩ ?_ ?_⟩
        · refine L10.cong ?_
          have e0 : (fun n => if to ≤ n ∧ n < to + ((0 : Nat) : Int) then L (n - to + f) else if f ≤ n ∧ n < f + ((0 : Nat) : Int) then none else L n) = L := by
            funext n
            rw [if_neg (by omega), if_neg (by omega)]
          rw [e0, setM_id eM]
        · rintro j σ Z hj ⟨⟨c13, rfl⟩, LZ⟩
          obtain ⟨z, g, hz, dg, hg, bd, zl, zs⟩ := LZ.dict (setM_at _ _ _) hv
          obtain ⟨pg, epg⟩ : ∃ pg, L (f + (j : Int)) = some pg := Option.isSome_iff_exists.mp (all _ (by omega) (by omega))
          have rel := hg (f + (j : Int))
          rw [if_neg (by omega), if_neg (by omega), epg] at rel
          obtain ⟨rv, erv, wf, hrow⟩ : ∃ rv, g (f + (j : Int)) = some rv ∧ WfP pg ∧ RwR Z rv pg := by
            cases e : g (f + (j : Int)) with
            | none => rw [e] at rel; exact rel.elim
            | some rv => rw [e] at rel; exact ⟨rv, rfl, rel.1, rel.2⟩
          have hval : valV z (Sum.inl (f + (j : Int))) = some rv := by rw [dg.val, erv]
          have LD := LZ.del hd hv hz (n := f + (j : Int)) (L' := fun n => if n = f + (j : Int) then none else if to ≤ n ∧ n < to + (j : Int) then L (n - to + f) else if f ≤ n ∧ n < f + (j : Int) then none else L n) (fun n => rfl)
          have e2 : ∀ n, (if to ≤ n ∧ n < to + ((j + 1 : Nat) : Int) then L (n - to + f) else if f ≤ n ∧ n < f + ((j + 1 : Nat) : Int) then none else L n) = if n = to + (j : Int) then some pg else if n = f + (j : Int) then none else if to ≤ n ∧ n < to + (j : Int) then L (n - to + f) else if f ≤ n ∧ n < f + (j : Int) then none else L n := fun n => by
            by_cases c1 : n = to + (j : Int)
            · rw [if_pos c1, if_pos (by omega), ← epg]
              congr 1
              omega
            · rw [if_neg c1]
              by_cases c2 : n = f + (j : Int)
              · rw [if_pos c2, if_neg (by omega), if_pos (by omega)]
              · rw [if_neg c2]
                by_cases c3 : to ≤ n ∧ n < to + (j : Int)
                · rw [if_pos c3, if_pos (by omega)]
                · rw [if_neg c3, if_neg (by omega)]
                  by_cases c4 : f ≤ n ∧ n < f + (j : Int)
                  · rw [if_pos c4, if_pos (by omega)]
                  · rw [if_neg c4, if_neg (by omega)]
          have ez : (0 : Int) + (j : Int) = (j : Int) := Int.zero_add _
          rw [ez]
          refine ⟨_, rfl, d, rfl, .inl ⟨z, .inl hz⟩, _, rfl, _, rfl, _, _, rfl, rfl, z, Sum.inl (f + (j : Int)), rv, hz, rfl, hval, ?_⟩
          refine ⟨_, rfl, _, rfl, _, rfl, _, _, rfl, rfl, d, _, rfl, DPut.k (k := Sum.inl (to + (j : Int))) upd_same ?_, ⟨_, rfl⟩, LD.add hd hv upd_same (by omega) (by omega) wf (hrow.kt (Kt.upd hz rfl)) e2⟩
          have := List.length_filter_le (fun kv => decide (kv.1 ≠ Sum.inl (f + (j : Int)))) z
          exact Nat.lt_of_le_of_lt (Nat.le_trans this (by omega : z.length ≤ 10000)) (by decide)
        · rintro σ Z ⟨⟨c13, rfl⟩, LZ⟩
          rw [ec] at LZ
          exact dn _ _ ⟨⟨_, rfl⟩, .inr ⟨by omega, movS S i L f c to, τ10, _, rfl, rfl, LZ, hk.put (T := some (movT L f c to)) (fun j => rfl)⟩⟩
      · exact dn _ _ ⟨⟨_, rfl⟩, .inr ⟨by omega, S, τ, M, rfl, rfl, L9.up, hk⟩⟩
end
end My
set_option Elab.async false
set_option linter.all false
set_option maxRecDepth 100000
set_option maxHeartbeats 4000000
namespace My
open PySem L2
local macro_rules | `(tactic| walk_at "ds") => `(tactic| dsimp only [tSeq, tIfS, tTest, tB, tAnd, tOr, tNot, tAndV, tOrV, tNotV, tIf, tIsN, tNotN, tOp, tUn, tChain, rI, rI0, rU, tC, tCB, tCons, tNil, tAsg, gName, gSub, tRet, tRetN, tNext, tDrop, tLst, tTup, rIxL, rIxT, rSetL, tVar, tFld, tCall, tDGet, tDIn, tDNotIn, tNever, L2.start, List.map, List.replicate, List.length, List.append, List.cons_append, List.nil_append, List.set, Nat.sub])
local macro_rules | `(tactic| walk_at "hp") => `(tactic| first | assumption | exact upd_same | (refine Eq.trans (upd_ne (by first | assumption | (apply Ne.symm; assumption))) ?_; walk_at "hp"))
local macro_rules | `(tactic| walk_at "sd") => `(tactic| first
  | (show (_ : Int) ≠ 0; omega)
  | (refine (show CDivN _ _ from ⟨?_, ?_⟩) <;> omega)
  | (show CPow _ _; refine ⟨by omega, by omega, by omega⟩)
  | (show CMul _ _; exact Or.inl ⟨by omega, by omega⟩)
  | (show CMul _ _; exact Or.inr ⟨by omega, by omega⟩))
local macro_rules | `(tactic| walk_at "st") => `(tactic| first
  | refine ⟨_, rfl, ?_⟩
  | refine ⟨_, _, rfl, rfl, (by walk_at "sd"), ?_⟩
  | refine ⟨_, _, rfl, rfl, ?_⟩
  | refine ⟨_, _, _, _, rfl, rfl, SqL.of (by walk_at "hp"), rfl, ?_⟩
  | refine ⟨_, _, _, _, rfl, rfl, (by walk_at "hp"), rfl, ?_⟩
  | refine .inl ⟨_, rfl, ?_⟩
  | refine ⟨_, _, _, _, _, rfl, (by walk_at "hp"), (by assumption), (by assumption), rfl, ?_⟩
  | refine ⟨_, _, rfl, .inl (SqL.of (by walk_at "hp")), ?_⟩)
local macro_rules | `(tactic| walk_at "go") => `(tactic| repeat (first | walk_at "st" | (walk_at "ds"; walk_at "st")))
local macro_rules | `(tactic| walk_at "ni") => `(tactic| dsimp (config := { proj := false }) only [tNil, List.cons_append, List.nil_append])
theorem cntS_page {CS CP CH : Addr} {H : Hp} {x : Addr} {w : Wh} {S : Sys} {τ : Tm} (h : SyR CS CP CH H x w S τ) {k : Int} {i n : Int} {T : Tb} {g : Pg} (eT : S.tabs i = some T) (eg : T n = some g) (es : g.src = .obj k) : ∃ m, cntS S k m ≠ 0 := by
  obtain ⟨d, hd⟩ := h.living eT
  obtain ⟨bi, _, kvs, f, _, _, pg⟩ := h.tabE hd eT
  have z := pg n
  rw [eg] at z
  cases ev : f n with
  | none => rw [ev] at z; exact z.elim
  | some v =>
    rw [ev] at z
    obtain ⟨⟨n0, n1⟩, wf, _⟩ := z
    obtain ⟨ix, ei, _⟩ := wf.ix (by rw [es]; simp)
    refine ⟨ix, ?_⟩
    have a := cntS_set (S := S) (a := none) (i := i) (by omega) (by have := h.bp.2; omega) k ix
    rw [eT] at a
    simp only [cO] at a
    have b : 0 < cntT T k ix := by
      unfold cntT
      exact sumN_pos.mpr ⟨n, n0, by omega, by rw [eg, cntO_is (wf.ob k es) es ei, if_pos ⟨rfl, rfl⟩]; exact Nat.one_pos⟩
    omega
theorem SyA.wfOf {CS CP CH : Addr} {H : Hp} {x : Addr} {w : Wh} {S : Sys} {τ : Tm} {cnt : Int → Int → Nat} (h : SyA CS CP CH H x w S τ cnt) {i n : Int} {T : Tb} {g : Pg} (eT : S.tabs i = some T) (eg : T n = some g) : WfP g := by
  obtain ⟨d, hd⟩ := h.living eT
  obtain ⟨bi, _, kvs, f, _, _, pg⟩ := h.tabE hd eT
  have z := pg n
  rw [eg] at z
  cases ev : f n with
  | none => rw [ev] at z; exact z.elim
  | some v => rw [ev] at z; exact z.2.1
theorem fits_bd {f : Int → Bool} {c i : Int} (h : fits f c = .int i) : 0 ≤ i ∧ i + c ≤ 512 := by
  unfold fits at h
  split at h
  · rename_i j hj
    have h1 := List.find?_some hj
    have h2 := List.mem_range.mp (List.mem_of_find?_eq_some hj)
    have h3 : runN f (j + 1) = c := by simpa using h1
    have h4 := runN_at f (j + 1)
    have h5 := V.int.inj h
    omega
  · cases h
theorem mapT_0 (L : Tb) (f : Int) (r : Str) (sh : Bool) (s : Src) (lo : Int) : mapT L f ((0 : Nat) : Int) r sh s lo = L := by
  funext n
  exact if_neg (by omega)
theorem mapT_succ (L : Tb) (f : Int) (j : Nat) (r : Str) (sh : Bool) (s : Src) (lo : Int) (n : Int) : mapT L f ((j + 1 : Nat) : Int) r sh s lo n = if n = f + (j : Int) then some (newPg r sh s lo (j : Int)) else mapT L f (j : Int) r sh s lo n := by
  unfold mapT
  by_cases c1 : n = f + (j : Int)
  · rw [if_pos c1, if_pos (by omega)]
    have : n - f = (j : Int) := by omega
    rw [this]
  · rw [if_neg c1]
    by_cases c2 : f ≤ n ∧ n < f + (j : Int)
    · rw [if_pos c2, if_pos (by omega)]
    · rw [if_neg c2, if_neg (by omega)]
theorem tIf_join {t : TT} {a b : TE} {σ : St} {H : Hp} {Q : VK} (Pn : V → Hp → Prop) (hk : ∀ v H', Pn v H' → Q v H') (hc : ∀ Q' : VK, (∀ v H', Pn v H' → Q' v H') → t σ H fun c H1 => if c = true then a σ H1 Q' else b σ H1 Q') : tIf t a b σ H Q := hc Q hk
theorem Lw.ktB {A : Adr} {W : Wo} {H H' : Hp} {S : Sys} {τ : Tm} {ρ : Addr → Option Int} {M : Mo} {kvs : List (Key × V)} {o p : Int} {B m : Nat} (h : Lw A W H S τ ρ M kvs o p B m) (b : But W.a H H') : Kt H H' := Kt.draw h.wl b
theorem rep_mem {v : V} {xs : List V} {b : Bool} (h : v ∈ (List.replicate (if b = true then (1 : Int) else 0).toNat xs).flatten) : b = true ∧ v ∈ xs := by
  cases b with
  | true => exact ⟨rfl, by simpa using h⟩
  | false => simp at h
section
variable {P : Program} {w : World} {K : PySem.W.Frag} {mg : Str → Option Value} {base : Heap} {A : Adr}
def spMapped (A : Adr) : Sp := fun vs H Q _ => ∃ (W : Wo) (S : Sys) (τ : Tm) (ρ : Addr → Option Int) (M : Mo) (kvs : List (Key × V)) (p : Int) (B m : Nat), vs = [.ref W.a, .ref W.x, .ref W.sp, .ref W.st] ∧
  Lw A W H S τ ρ M kvs S.o p B m ∧ Lk S M ∧ m < 900 ∧ B < 900000 ∧
  ∀ (H' : Hp) (S' : Sys) (τ' : Tm) (ρ' : Addr → Option Int) (M' : Mo) (kvs' : List (Key × V)), S'.p = S.p → Lw A W H' S' τ' ρ' M' kvs' S'.o p (B + 12) (m + 1) → Lk S' M' → Q (.bl true) H'
theorem ok__law_mapped (G : Txt K mg A) : FnOk P w K mg base CX0 7 A.a__law_mapped A.fd__law_mapped p__law_mapped (spMapped A) := by
  obtain ⟨mv5, hK5⟩ := map_k5 G
  refine G.f__law_mapped.ok sc__law_mapped (fun vs H Q E h => ?_) (fun cdv A' outer s H vs Q E hr h => ?_)
  · obtain ⟨W, S, τ, ρ, M, kvs, p, B, m, rfl, _⟩ := h
    rfl
  · obtain ⟨W, S, τ, ρ, M, kvs, p, B, m, rfl, hL, hk, hm, hB, k⟩ := h
    refine ⟨_, (pss_cons (ps_set (i := 4) sc__law_mapped.nd rfl (Or.inl rfl) (pe_call (ok__law_oneI G) (hr.mono (by decide)) rfl G.g__law_one G.k__law_one G.bi__law_one .nil pass0 (pa_cons (pv 0) (pa_cons (pe_callB (call_sortedDL rfl) (by rfl) G.b_sorted (by decide +kernel) (pa_cons (pv 2) pa_nil)) pa_nil))))
  (pss_cons (ps_set (i := 5) sc__law_mapped.nd rfl (Or.inl rfl) (pe_dget (hu_of hr) (pv 2) (pv 4) (fun _ _ => rfl)))
  (pss_cons (ps_set (i := 6) sc__law_mapped.nd rfl (Or.inl rfl) (pe_op op_add pe_int (pe_call (ok__law_drawI G) (hr.mono (by decide)) rfl G.g__law_draw G.k__law_draw G.bi__law_draw .nil pass0 (pa_cons (pv 0) (pa_cons (pe_call (ok__law_oneI G) (hr.mono (by decide)) rfl G.g__law_one G.k__law_one G.bi__law_one .nil pass0 (pa_cons (pv 0) (pa_cons (pe_lst (pa_cons pe_int (pa_cons pe_int (pa_cons pe_int pa_nil)))) pa_nil))) pa_nil)))))
  (pss_cons (ps_set (i := 7) sc__law_mapped.nd rfl (Or.inl rfl) (pe_call (ok__law_oneI G) (hr.mono (by decide)) rfl G.g__law_one G.k__law_one G.bi__law_one .nil pass0 (pa_cons (pv 0) (pa_cons (pe_lst (pa_cons pe_str (pa_cons pe_str (pa_cons pe_str (pa_cons pe_str pa_nil))))) pa_nil))))
  (pss_cons (ps_set (i := 8) sc__law_mapped.nd rfl (Or.inl rfl) (pe_cmpR op_eq (pe_call (ok__law_drawI G) (hr.mono (by decide)) rfl G.g__law_draw G.k__law_draw G.bi__law_draw .nil pass0 (pa_cons (pv 0) (pa_cons pe_int pa_nil))) pe_int (nomark _)))
  (pss_cons (ps_setLc (i := 9) (own := [("k", 10)]) (g := gName 10) rfl sc__law_mapped.nd rfl rfl (sw_true rfl rfl rfl (by decide +kernel)) (pi_range2 rfl G.b_range (pa_cons pe_int (pa_cons (pe_op op_add (pe_dget (hu_of hr) (pv 3) pe_str (fun _ _ => rfl)) pe_int) pa_nil))) (blkOk_by (own := [("k", 10)]) (N := n__law_mapped) (sc := defScope s__law_mapped) (by decide +kernel)) (fun _ _ _ _ _ => pg_name (i := 10) sc__law_mapped.nd rfl (Or.inl rfl)) (fun _ _ _ _ _ => pts_one (pt_val (pe_call (ok__law_alive G) (hr.mono (by decide)) rfl G.g__law_alive G.k__law_alive G.bi__law_alive .nil pass0 (pa_cons (pv 2) (pa_cons (pv 10) pa_nil))))) (fun _ _ _ _ _ => (pe_tup (pa_cons pe_str (pa_cons (pv 10) pa_nil)))))
  (pss_cons (ps_set (i := 11) sc__law_mapped.nd rfl (Or.inl rfl) (pe_call (ok__law_oneI G) (hr.mono (by decide)) rfl G.g__law_one G.k__law_one G.bi__law_one .nil pass0 (pa_cons (pv 0) (pa_cons (pe_op op_cat (pe_lst (pa_cons pe_non (pa_cons pe_non (pa_cons (pe_tup (pa_cons pe_str (pa_cons pe_str pa_nil))) (pa_cons (pe_tup (pa_cons pe_str (pa_cons pe_str pa_nil))) pa_nil))))) (pe_op op_rep (pv 9) (pe_callTy call_int1 (by rfl) G.b_int (by decide +kernel) (pa_cons (pv 8) pa_nil)))) pa_nil))))
  (pss_cons (ps_set (i := 12) sc__law_mapped.nd rfl (Or.inl rfl) (pe_ifExp (pt_cmpR op_isN (pv 11) pe_non (nomark _)) pe_int (pe_call (ok__law_drawI G) (hr.mono (by decide)) rfl G.g__law_draw G.k__law_draw G.bi__law_draw .nil pass0 (pa_cons (pv 0) (pa_cons pe_int pa_nil)))))
  (pss_cons (ps_set (i := 13) sc__law_mapped.nd rfl (Or.inl rfl) (pe_call (ok__law_oneI G) (hr.mono (by decide)) rfl G.g__law_one G.k__law_one G.bi__law_one .nil pass0 (pa_cons (pv 0) (pa_cons (pe_lst (pa_cons pe_non (pa_cons (pe_call (ok__law_drawI G) (hr.mono (by decide)) rfl G.g__law_draw G.k__law_draw G.bi__law_draw .nil pass0 (pa_cons (pv 0) (pa_cons pe_int pa_nil))) (pa_cons (pe_call (ok__law_drawI G) (hr.mono (by decide)) rfl G.g__law_draw G.k__law_draw G.bi__law_draw .nil pass0 (pa_cons (pv 0) (pa_cons (pe_op op_sub pe_int (pv 6)) pa_nil))) pa_nil)))) pa_nil))))
  (pss_cons (ps_set (i := 14) sc__law_mapped.nd rfl (Or.inl rfl) (pe_ifExp (pt_cmpR op_isN (pv 13) pe_non (nomark _)) (pe_call (ok__law_fits G) (hr.mono (by decide)) rfl G.g__law_fits G.k__law_fits G.bi__law_fits .nil pass0 (pa_cons (pv 5) (pa_cons (pv 6) pa_nil))) (pv 13)))
  (pss_cons (ps_if (pt_cmpR op_isN (pv 14) pe_non (nomark _)) (pss_cons (ps_set (i := 13) sc__law_mapped.nd rfl (Or.inl rfl) pe_int)
  (pss_one (ps_set (i := 14) sc__law_mapped.nd rfl (Or.inl rfl) pe_int))) pss_nil)
  (pss_cons (ps_set (i := 15) sc__law_mapped.nd rfl (Or.inl rfl) (pe_callN (ok_map_pages G) (hr.mono (by decide)) rfl G.g_map_pages G.k_map_pages hK5 passL (pa_cons (pv 1) (pa_cons (pv 4) (pa_cons (pv 6) pa_nil))) (pk_cons (pv 7) (pk_cons (pv 8) (pk_cons (pv 11) (pk_cons (pv 12) (pk_cons (pv 13) pk_nil)))))))
  (pss_cons (ps_if (pt_cmpR op_ne (pv 15) (pv 14) (nomark _)) (pss_one (ps_ret pe_bl)) pss_nil)
  (pss_cons (ps_if (PW.pt (pw_and (pt_val (pv 8)) (pw_and1 (pt_cmpR op_isN (pv 11) pe_non (nomark _))))) (pss_cons (ps_dput (hu_of hr) (pv 3) pe_str (pe_op op_add (pe_dget (hu_of hr) (pv 3) pe_str (fun _ _ => rfl)) pe_int) rfl)
  (pss_one (ps_set (i := 11) sc__law_mapped.nd rfl (Or.inl rfl) (pe_tup (pa_cons pe_str (pa_cons (pe_dget (hu_of hr) (pv 3) pe_str (fun _ _ => rfl)) pa_nil)))))) pss_nil)
  (pss_cons (ps_for PassesOwn.never rfl (pi_range1 rfl G.b_range (pa_cons (pv 6) pa_nil)) (pg_name (i := 10) sc__law_mapped.nd rfl (Or.inl rfl)) (pss_one (ps_dput (hu_of hr) (pv 5) (pe_op op_add (pv 14) (pv 10)) (pe_tup (pa_cons (pv 7) (pa_cons (pv 8) (pa_cons (pv 11) (pa_cons (pe_ifExp (pt_cmpR op_isN (pv 11) pe_non (nomark _)) pe_non (pe_op op_add (pv 12) (pv 10))) (pa_cons (pe_lst pa_nil) pa_nil)))))) rfl)))
  (pss_one (ps_ret pe_bl))))))))))))))))), ?_⟩
    obtain ⟨gg, di, hgg⟩ := id hL.sv
    have tkeep : ∀ {S' : Sys}, S'.p = S.p → S'.p ≤ 1 + (m + 1) := fun e => by have := hL.bp; omega
    -- process
    refine ⟨_, rfl, _, rfl, W.sp, kvs, intsOf kvs, rfl, .inl hL.hs, di.keys, fun ys l1 hperm _ hl1 => ?_⟩
    have ly : (ys.map V.int).length = kvs.length := by rw [List.length_map, hperm.length_eq, intsOf_length]
    have fw := hL.few
    show spOneI K [.ref W.a, .ref l1] (upd H l1 (.lst (ys.map V.int))) _ _
    refine hL.oneQ (by omega) hl1 (by omega) (by omega) fun v H1 hv0 b1 L1 => ?_
    obtain ⟨i, hi, rfl⟩ := List.mem_map.mp hv0
    obtain ⟨L, eM⟩ := intsOf_mem hL (hperm.mem_iff.mp hi)
    obtain ⟨d, hv, hd, _⟩ := L1.space eM
    have eT : S.tabs i = some L := (hk i).trans eM
    refine ⟨_, rfl, _, rfl, W.sp, .ref d, rfl, (by rw [← hv]; exact DGet.k (k := Sum.inl i) L1.hs), ?_⟩
    -- many
    refine ⟨_, rfl, _, rfl, (by show 3 ≤ sizeLine; decide), fun l2 hl2 => ?_⟩
    show spOneI K [.ref W.a, .ref l2] (upd H1 l2 (.lst [.int 3, .int 9, .int 40])) _ _
    refine L1.oneQ (by omega) hl2 (by show 0 < 3; decide) (by show 3 < 1000; decide) fun v2 H2 hv2 b2 L2 => ?_
    obtain ⟨n2, rfl, n20, n21⟩ : ∃ n, v2 = V.int n ∧ 0 < n ∧ n ≤ 40 := by
      simp only [List.mem_cons, List.not_mem_nil, or_false] at hv2
      rcases hv2 with rfl | rfl | rfl <;> exact ⟨_, rfl, by decide, by decide⟩
    show spDrawI [.ref W.a, .int n2] H2 _ _
    refine L2.drawQ (by omega) n20 (by omega) fun e3 H3 e30 e31 b3 L3 => ⟨_, _, rfl, rfl, ?_⟩
    obtain ⟨c, ec⟩ : ∃ c, c = 1 + e3 := ⟨_, rfl⟩
    dsimp only
    rw [← ec]
    have c0 : 1 ≤ c := by omega
    have c1 : c ≤ 40 := by omega
    clear ec e30 e31 n20 n21 hv2 hl2 hl1 b1 b2 b3 L1 L2 hv0 hperm ly
    -- letters, is_shared
    refine ⟨_, rfl, (by show 4 ≤ sizeLine; decide), fun l4 hl4 => ?_⟩
    show spOneI K [.ref W.a, .ref l4] (upd H3 l4 (.lst [.str "none", .str "r", .str "rw", .str "rw"])) _ _
    refine L3.oneQ (by omega) hl4 (by show 0 < 4; decide) (by show 4 < 1000; decide) fun v4 H4 hv4 b4 L4 => ?_
    obtain ⟨r, rfl, hr1⟩ : ∃ r, v4 = V.str r ∧ isW RTS (.str r) = true := by
      simp only [List.mem_cons, List.not_mem_nil, or_false] at hv4
      rcases hv4 with rfl | rfl | rfl | rfl <;> exact ⟨_, rfl, by decide +kernel⟩
    refine ⟨_, rfl, ?_⟩
    show spDrawI [.ref W.a, .int 2] H4 _ _
    refine L4.drawQ (by omega) (by decide) (by decide) fun bs H5 _ _ b5 L5 => ⟨rfl, ?_⟩
    obtain ⟨sh, esh⟩ : ∃ b, b = decide (V.int bs = V.int 0) := ⟨_, rfl⟩
    rw [← esh]
    clear hv4 hl4 b4 b5 L3 L4 esh
    -- known
    have bo := hL.sy.bo
    have bom := hL.bo
    refine ⟨_, rfl, W.st, .int S.o, rfl, (by rw [← st_obj S.o p]; exact DGet.k (k := Sum.inr "objects") L5.hst), _, _, rfl, rfl, 1, S.o + 1, rfl, ⟨by omega, by omega, by omega, by omega⟩, fun D hD => ?_⟩
    refine lc_it walk_range (fun j Z => Same H5 Z ∧ ∃ ks : List (Addr × Int), Z D = some (.lst (ks.map fun q => V.ref q.1)) ∧ ks.length ≤ j ∧ ∀ q ∈ ks, Z q.1 = some (.tup [.str "object", .int q.2]) ∧ shown M q.2)
      ⟨Same.new hD, [], upd_same, Nat.le_refl _, fun q hq => (nomatch hq)⟩ (fun _ _ _ _ => True.intro) ?_ ?_
    · rintro j y Z1 Z2 hj ⟨sz, ks, zD, lk, hks⟩ ⟨rfl, rfl⟩
      have LZ := L5.same sz
      refine ⟨rfl, ?_⟩
      refine ⟨_, rfl, _, rfl, W.sp, 1 + (j : Int), ρ, kvs, M, rfl, LZ.hs, LZ.sv, LZ.rs, LZ.few.2, fun b Z3 s3 hb => ⟨b, rfl, ?_⟩⟩
      have zD3 := s3 _ _ zD
      have sz3 := sz.trans s3
      have ks3 : ∀ q ∈ ks, Z3 q.1 = some (.tup [.str "object", .int q.2]) ∧ shown M q.2 := fun q hq => ⟨s3 _ _ (hks q hq).1, (hks q hq).2⟩
      refine iteB (fun e => ?_) (fun e => ?_)
      · refine ⟨_, rfl, (by show 2 ≤ sizeLine; decide), fun t ht => ?_⟩
        have st := Same.new (o := .tup [V.str "object", V.int (1 + (j : Int))]) ht
        have ntD : D ≠ t := ne_of_none zD3 ht
        refine ⟨_, st _ _ zD3, Nat.lt_of_le_of_lt (?_ : _ ≤ 10000) (by decide), fun b' o' ho => ?_, ks ++ [(t, 1 + (j : Int))], by rw [upd_same, List.map_append]; rfl, by rw [List.length_append]; exact Nat.succ_le_succ lk, fun q hq => ?_⟩
        · rw [List.length_map]
          omega
        · rw [upd_ne (ne_of_none ho hD)]
          exact st _ _ (sz3 _ _ ho)
        · rcases List.mem_append.mp hq with u | u
          · obtain ⟨h1, h2⟩ := ks3 q u
            refine ⟨?_, h2⟩
            rw [upd_ne (ne_of (st _ _ h1) (st _ _ zD3) (by intro z; cases z))]
            exact st _ _ h1
          · rw [List.mem_singleton.mp u]
            refine ⟨?_, hb.mp e⟩
            show (upd (upd Z3 t _) D _) t = _
            rw [upd_ne (Ne.symm ntD), upd_same]
      · exact ⟨sz3, ks, zD3, by omega, ks3⟩
    rintro Z ⟨sz, ks, zD, lk, hks⟩
    have L6 := L5.same sz
    clear sz L5 hD
    -- whence
    refine ⟨_, rfl, (by show 2 ≤ sizeLine; decide), fun t1 ht1 => ⟨(by show 2 ≤ sizeLine; decide), fun t2 ht2 => ⟨(by show 4 ≤ sizeLine; decide), fun q1 hq1 => ?_⟩⟩⟩
    have s1 := ((Same.new (o := .tup [V.str "file", V.str "a"]) ht1).trans (Same.new (o := .tup [V.str "file", V.str "bb"]) ht2)).trans (Same.new (o := .lst [V.non, V.non, V.ref t1, V.ref t2]) hq1)
    have f1 : (upd (upd (upd Z t1 (.tup [V.str "file", V.str "a"])) t2 (.tup [V.str "file", V.str "bb"])) q1 (.lst [V.non, V.non, V.ref t1, V.ref t2])) t1 = some (.tup [V.str "file", V.str "a"]) := (Same.new hq1) _ _ ((Same.new ht2) _ _ upd_same)
    have f2 : (upd (upd (upd Z t1 (.tup [V.str "file", V.str "a"])) t2 (.tup [V.str "file", V.str "bb"])) q1 (.lst [V.non, V.non, V.ref t1, V.ref t2])) t2 = some (.tup [V.str "file", V.str "bb"]) := (Same.new hq1) _ _ upd_same
    have f3 : (upd (upd (upd Z t1 (.tup [V.str "file", V.str "a"])) t2 (.tup [V.str "file", V.str "bb"])) q1 (.lst [V.non, V.non, V.ref t1, V.ref t2])) q1 = some (.lst [V.non, V.non, V.ref t1, V.ref t2]) := upd_same
    have f4 := s1 _ _ zD
    have ksZ : ∀ q ∈ ks, (upd (upd (upd Z t1 (.tup [V.str "file", V.str "a"])) t2 (.tup [V.str "file", V.str "bb"])) q1 (.lst [V.non, V.non, V.ref t1, V.ref t2])) q.1 = some (.tup [.str "object", .int q.2]) ∧ shown M q.2 := fun q hq => ⟨s1 _ _ (hks q hq).1, (hks q hq).2⟩
    have L7 := L6.same s1
    generalize (upd (upd (upd Z t1 (.tup [V.str "file", V.str "a"])) t2 (.tup [V.str "file", V.str "bb"])) q1 (.lst [V.non, V.non, V.ref t1, V.ref t2])) = Z1 at *
    clear ht1 ht2 hq1 s1 zD hks L6
    have lks : (ks.map fun q => V.ref q.1).length ≤ 1000 := by
      rw [List.length_map]
      omega
    refine ⟨_, rfl, _, rfl, .inr ⟨_, rfl, D, _, _, rfl, rfl, f4, by cases sh <;> decide, by cases sh <;> decide, ?_, fun q2 hq2 => ?_⟩⟩
    · refine Nat.le_trans (?_ : _ ≤ 10000) (by decide)
      cases sh
      · show (ks.map fun q => V.ref q.1).length * 0 ≤ _
        omega
      · show (ks.map fun q => V.ref q.1).length * 1 ≤ _
        omega
    have lrep : (List.replicate (if sh = true then (1 : Int) else 0).toNat (ks.map fun q => V.ref q.1)).flatten.length ≤ 900 := by
      cases sh with
      | false => exact Nat.zero_le _
      | true =>
        have : (List.replicate (if true = true then (1 : Int) else 0).toNat (ks.map fun q => V.ref q.1)).flatten = ks.map fun q => V.ref q.1 := by simp
        rw [this, List.length_map]
        omega
    have s2 := Same.new (o := .lst (List.replicate (if sh = true then (1 : Int) else 0).toNat (ks.map fun q => V.ref q.1)).flatten) hq2
    refine ⟨q1, q2, _, _, rfl, rfl, s2 _ _ f3, upd_same, ?_, fun q3 hq3 => ?_⟩
    · refine Nat.le_trans (?_ : _ ≤ 10000) (by decide)
      show 4 + _ ≤ 10000
      omega
    have L8 := L7.same s2
    have s3 := Same.new (o := .lst ([V.non, V.non, V.ref t1, V.ref t2] ++ (List.replicate (if sh = true then (1 : Int) else 0).toNat (ks.map fun q => V.ref q.1)).flatten)) hq3
    show spOneI K [.ref W.a, .ref q3] (upd _ q3 (.lst ([V.non, V.non, V.ref t1, V.ref t2] ++ (List.replicate (if sh = true then (1 : Int) else 0).toNat (ks.map fun q => V.ref q.1)).flatten))) _ _
    refine L8.oneQ (by omega) hq3 (by rw [List.length_append]; show 0 < 4 + _; omega) (by rw [List.length_append]; show 4 + _ < 1000; omega) fun wv H6 hwv b6 L9 => ?_
    have k6 := (L8.same s3).ktB b6
    obtain ⟨s, hs, hso, hsf⟩ : ∃ s : Src, srcR H6 wv s ∧ (∀ j, s = .obj j → sh = true ∧ shown M j) ∧ (∀ n, s = .file n → S.fls n = true) := by
      rcases List.mem_append.mp hwv with u | u
      · simp only [List.mem_cons, List.not_mem_nil, or_false] at u
        rcases u with rfl | rfl | rfl | rfl
        · exact ⟨.non, rfl, fun j z => (nomatch z), fun j z => (nomatch z)⟩
        · exact ⟨.non, rfl, fun j z => (nomatch z), fun j z => (nomatch z)⟩
        · exact ⟨.file "a", ⟨t1, rfl, k6 _ _ (s3 _ _ (s2 _ _ f1)) rfl⟩, fun j z => (nomatch z), fun j z => by cases z; exact hL.fs.1⟩
        · exact ⟨.file "bb", ⟨t2, rfl, k6 _ _ (s3 _ _ (s2 _ _ f2)) rfl⟩, fun j z => (nomatch z), fun j z => by cases z; exact hL.fs.2⟩
      · obtain ⟨h1, h2⟩ := rep_mem u
        obtain ⟨q, hq, rfl⟩ := List.mem_map.mp h2
        obtain ⟨h3, h4⟩ := ksZ q hq
        exact ⟨.obj q.2, ⟨q.1, rfl, k6 _ _ (s3 _ _ (s2 _ _ h3)) rfl⟩, fun j z => by cases z; exact ⟨h1, h4⟩, fun j z => (nomatch z)⟩
    clear hwv b6 k6 s2 s3 L7 L8 f1 f2 f3 f4 ksZ lks lrep hq2 hq3 lk
    have nonW : ∀ {s : Src} {v : V} {H : Hp}, srcR H v s → decide (v = V.non) = decide (s = .non) := fun {s v H} h => by
      cases s with
      | non => cases h; rfl
      | file n => obtain ⟨a, rfl, _⟩ := h; rfl
      | obj n => obtain ⟨a, rfl, _⟩ := h; rfl
    have ewn := nonW hs
    -- low
    try dsimp only [gName, tSeq, tAsg]
    refine tIf_join (fun v Z' => ∃ lo : Int, v = .int lo ∧ 0 ≤ lo ∧ lo ≤ 11 ∧ (s = .non → lo = 0) ∧ But W.a H6 Z' ∧ Lw A W Z' S τ ρ M kvs S.o p (B + 7) m) ?_ (fun Q' q' => ?_)
    rotate_left
    · refine ⟨_, rfl, rfl, _, rfl, ?_⟩
      rw [ewn]
      refine iteD (fun e => ?_) (fun e => ?_)
      · exact q' _ _ ⟨0, rfl, Int.le_refl _, by decide, fun _ => rfl, But.of (Same.refl _), L9.mono (by omega) (by omega)⟩
      · refine ⟨_, rfl, ?_⟩
        show spDrawI [.ref W.a, .int 12] H6 _ _
        refine L9.drawQ (by omega) (by decide) (by decide) fun lo H7 l0 l1 b7 L10 => ?_
        exact q' _ _ ⟨lo, rfl, l0, by omega, fun z => absurd z e, b7, L10⟩
    rintro _ H7 ⟨lo, rfl, l0, l1, lz, b7, L10⟩
    have hs7 := hs.kt (L9.ktB b7)
    clear L9 hs b7
    -- spot
    refine ⟨_, rfl, _, rfl, ?_⟩
    show spDrawI [.ref W.a, .int 24] H7 _ _
    refine L10.drawQ (by omega) (by decide) (by decide) fun sa H8 sa0 sa1 b8 L11 => ?_
    refine ⟨_, rfl, _, rfl, _, _, rfl, rfl, ?_⟩
    show spDrawI [.ref W.a, .int (512 - c)] H8 _ _
    refine L11.drawQ (by omega) (by omega) (by omega) fun sb H9 sb0 sb1 b9 L12 => ?_
    refine ⟨(by show 3 ≤ sizeLine; decide), fun l6 hl6 => ?_⟩
    show spOneI K [.ref W.a, .ref l6] (upd H9 l6 (.lst [.non, .int sa, .int sb])) _ _
    refine L12.oneQ (by omega) hl6 (by show 0 < 3; decide) (by show 3 < 1000; decide) fun sv H10 hsv b10 L13 => ?_
    have hs10 := ((hs7.kt (L10.ktB b8)).kt (L11.ktB b9)).kt ((Kt.same (Same.new (o := .lst [.non, .int sa, .int sb]) hl6)).trans ((L12.same (Same.new (o := .lst [.non, .int sa, .int sb]) hl6)).ktB b10))
    have hsv' : sv = .non ∨ ∃ n, sv = V.int n ∧ 0 ≤ n ∧ n ≤ 512 - c := by
      simp only [List.mem_cons, List.not_mem_nil, or_false] at hsv
      rcases hsv with rfl | rfl | rfl
      · exact .inl rfl
      · exact .inr ⟨_, rfl, sa0, by omega⟩
      · exact .inr ⟨_, rfl, sb0, by omega⟩
    clear L10 L11 L12 b8 b9 b10 hl6 hsv hs7 sa0 sa1 sb0 sb1
    have avs : AnyV H10 sv := by
      rcases hsv' with rfl | ⟨n, rfl, _⟩
      · exact .non
      · exact .int _
    obtain ⟨z, g, hz, dg, hg, bd, zl, zs⟩ := L13.dict eM hv
    -- due
    have ed : sv = .non → placeV (mpd L) c sv = fits (mpd L) c := fun e => if_pos e
    have ed2 : sv ≠ .non → placeV (mpd L) c sv = sv := fun e => if_neg e
    try dsimp only [gName, tSeq, tAsg]
    refine tIf_val (v := placeV (mpd L) c sv) (b := decide (sv = .non)) (fun Q' q' => ⟨_, rfl, rfl, _, rfl, q'⟩) (fun e Q' q' => ?_) (fun e Q' q' => ?_) ?_
    · rw [ed (of_decide_eq_true e)] at q'
      exact ⟨_, rfl, _, rfl, d, c, z, mpd L, rfl, hz, zs, q'⟩
    · rw [ed2 (of_decide_eq_false e)] at q'
      exact ⟨_, rfl, q'⟩
    try dsimp only [gName, tSeq, tAsg]
    refine tIfS_join (fun σ' Z' => H10 = Z' ∧ ∃ (sv' : V) (due : Int), σ' = [some (.ref W.a), some (.ref W.x), some (.ref W.sp), some (.ref W.st), some (.int i), some (.ref d), some (.int c), some (.str r), some (.bl sh), some (.ref D), none, some wv, some (.int lo), some sv', some (.int due), none] ∧ AnyV H10 sv' ∧ placeV (mpd L) c sv' = .int due ∧ 0 ≤ due ∧ due ≤ 512 - c) ?_ (fun D' dn _ _ _ => ?_)
    rotate_left
    · refine ⟨_, rfl, rfl, _, rfl, iteD (fun e => ?_) (fun e => ?_)⟩
      · exact dn _ _ ⟨rfl, .int 0, 0, rfl, .int _, if_neg (by simp), Int.le_refl _, by omega⟩
      · obtain ⟨due, edue, d0, d1⟩ : ∃ due, placeV (mpd L) c sv = .int due ∧ 0 ≤ due ∧ due ≤ 512 - c := by
          rcases hsv' with rfl | ⟨n, rfl, n0, n1⟩
          · rw [ed rfl] at e ⊢
            rcases (fits_any (mpd L) c H10).2 with h | ⟨n, h⟩
            · exact absurd h e
            · have := fits_bd h
              exact ⟨n, h, this.1, by omega⟩
          · exact ⟨n, if_neg (by simp), n0, n1⟩
        rw [edue]
        exact dn _ _ ⟨rfl, sv, due, rfl, avs, edue, d0, d1⟩
    rintro _ _ ⟨rfl, sv', due, rfl, avs', edue, d0, d1⟩
    -- the map
    refine ⟨_, rfl, _, rfl, _, rfl, _, rfl, _, rfl, _, rfl, _, rfl, _, rfl, rfl, rfl, ?_⟩
    show spMap A [.ref W.x, .int i, .int c, .str r, .bl sh, wv, .int lo, sv'] H10 _ _
    refine use_map (s := s) (f := due) L13.sy eT c0 (by omega) hr1 hs10 (fun j e => ?_) hsf l0 lz (fun _ => by omega) avs' edue d0 d1 (fun _ _ => by omega) fun H11 τ11 g11 S11 => ?_
    · obtain ⟨h1, i', L', n', g', e1, e2, e3⟩ := hso j e
      exact ⟨h1, cntS_page L13.sy ((hk i').trans e1) e2 e3⟩
    have L14 := L13.go (m' := m + 1) g11 S11 (tkeep rfl) (by
      show (if (sh && decide (s = .non)) = true then S.o + 1 else S.o) ≤ _
      split <;> omega) rfl
    have hs11 := hs10.kt (Kt.go L13.sy g11)
    refine ⟨_, rfl, _, rfl, rfl, _, rfl, ?_⟩
    rw [decide_eq_true rfl]
    refine iteF ?_
    clear hs10 avs' edue avs ed ed2 hsv' S11 g11 hz dg hg bd zl zs
    obtain ⟨mk, emk⟩ : ∃ mk, mk = (sh && decide (s = .non)) := ⟨_, rfl⟩
    obtain ⟨s', es'⟩ : ∃ s', s' = if mk = true then Src.obj (S.o + 1) else s := ⟨_, rfl⟩
    have eS : mapS S i L due c r sh s lo = { ({ S with o := if mk = true then S.o + 1 else S.o } : Sys).setTab i (some (mapT L due c r sh s' lo)) with n := S.n + 1 } := by
      rw [es', emk]
      rfl
    have eo : (mapS S i L due c r sh s lo).o = if mk = true then S.o + 1 else S.o := by rw [eS]; rfl
    have ep : (mapS S i L due c r sh s lo).p = S.p := rfl
    have etb : ∀ j, (mapS S i L due c r sh s lo).tabs j = if j = i then some (mapT L due c r sh s' lo) else S.tabs j := fun j => by rw [eS]; rfl
    generalize mapS S i L due c r sh s lo = S' at *
    -- a new object
    dsimp only [tNext, tSeq]
    refine tIfS_join (fun σ' Z' => ∃ wv', σ' = [some (.ref W.a), some (.ref W.x), some (.ref W.sp), some (.ref W.st), some (.int i), some (.ref d), some (.int c), some (.str r), some (.bl sh), some (.ref D), none, some wv', some (.int lo), some sv', some (.int due), some (.int due)] ∧ srcR Z' wv' s' ∧ Lw A W Z' S' τ11 ρ M kvs S'.o p (B + 12) (m + 1)) ?_ (fun D' dn _ _ _ => ?_)
    rotate_left
    · have no : mk = false → D'.nx [some (.ref W.a), some (.ref W.x), some (.ref W.sp), some (.ref W.st), some (.int i), some (.ref d), some (.int c), some (.str r), some (.bl sh), some (.ref D), none, some wv, some (.int lo), some sv', some (.int due), some (.int due)] H11 := fun e => by
        rw [e] at es' eo
        rw [if_neg Bool.false_ne_true] at es' eo
        refine dn _ _ ⟨wv, rfl, by rw [es']; exact hs11, ?_⟩
        rw [eo]
        exact L14.mono (by omega) (by omega)
      refine ⟨_, rfl, _, rfl, iteB (fun e1 => ?_) (fun e1 => ?_)⟩
      · refine ⟨_, rfl, rfl, _, rfl, ?_⟩
        rw [ewn]
        refine iteD (fun e2 => ?_) (fun e2 => ?_)
        · have em : mk = true := by rw [emk, e1, e2]; rfl
          rw [em] at es' eo
          rw [if_pos rfl] at es' eo
          refine ⟨_, rfl, W.st, .int S.o, rfl, (by rw [← st_obj S.o p]; exact DGet.k (k := Sum.inr "objects") L14.hst), _, _, rfl, rfl, _, rfl, W.st, _, rfl, DPut.k (k := Sum.inr "objects") L14.hst (by show 2 < sizeLine; decide), ?_⟩
          rw [st_putO]
          have L15 := L14.putSt (o' := S.o + 1) (p' := p)
          refine ⟨_, rfl, W.st, .int (S.o + 1), rfl, (by rw [← st_obj (S.o + 1) p]; exact DGet.k (k := Sum.inr "objects") L15.hst), (by show 2 ≤ sizeLine; decide), fun t3 ht3 => ?_⟩
          have s5 := Same.new (o := .tup [V.str "object", V.int (S.o + 1)]) ht3
          refine dn _ _ ⟨.ref t3, rfl, ?_, ?_⟩
          · rw [es']
            exact ⟨t3, rfl, upd_same⟩
          · rw [eo]
            exact (L15.same s5).mono (by omega) (by omega)
        · exact no (by rw [emk, decide_eq_false e2, Bool.and_false])
      · exact no (by rw [emk, e1]; rfl)
    rintro _ H12 ⟨wv', rfl, hs12, L15⟩
    have ewn' := nonW hs12
    have ec' : ((c.toNat : Nat) : Int) = c := by omega
    have eT' : S'.tabs i = some (mapT L due c r sh s' lo) := by rw [etb, if_pos rfl]
    -- the rows
    refine ⟨_, rfl, c, rfl, by omega, by omega, for_range (lo := 0) (n := c.toNat) (fun j σ Z => (∃ c10, σ = [some (.ref W.a), some (.ref W.x), some (.ref W.sp), some (.ref W.st), some (.int i), some (.ref d), some (.int c), some (.str r), some (.bl sh), some (.ref D), c10, some wv', some (.int lo), some sv', some (.int due), some (.int due)]) ∧ srcR Z wv' s' ∧
      Lw A W Z S' τ11 ρ (setM M i (some (mapT L due (j : Nat) r sh s' lo))) kvs S'.o p (B + 12) (m + 1)) ⟨⟨_, rfl⟩, hs12, L15.cong (by rw [mapT_0, setM_id eM])⟩ ?_ ?_⟩
    · rintro j σ Z hj ⟨⟨c10, rfl⟩, hsZ, LZ⟩
      have ez : (0 : Int) + (j : Int) = (j : Int) := Int.zero_add _
      rw [ez]
      obtain ⟨z, g, hz, dg, hg, bd, zl, zs⟩ := LZ.dict (setM_at _ _ _) hv
      have wf : WfP (newPg r sh s' lo (j : Int)) := LZ.sy.wfOf eT' (n := due + (j : Int)) (by
        unfold mapT
        rw [if_pos (by omega)]
        have : due + (j : Int) - due = (j : Int) := by omega
        rw [this])
      refine ⟨_, rfl, _, rfl, _, rfl, ?_⟩
      refine tIf_val (v := ixV (newPg r sh s' lo (j : Int)).ix) (b := decide (s' = .non)) (fun Q' q' => ⟨_, rfl, rfl, _, rfl, by rw [ewn']; exact q'⟩) (fun e Q' q' => ?_) (fun e Q' q' => ?_) ?_
      · have e' : (newPg r sh s' lo (j : Int)).ix = none := if_pos (of_decide_eq_true e)
        rw [e'] at q'
        exact q'
      · have e' : (newPg r sh s' lo (j : Int)).ix = some (lo + (j : Int)) := if_neg (of_decide_eq_false e)
        rw [e'] at q'
        exact ⟨_, rfl, _, rfl, _, _, rfl, rfl, q'⟩
      refine ⟨Nat.zero_le _, fun l7 hl7 => ⟨(by show 5 ≤ sizeLine; decide), fun t4 ht4 => ?_⟩⟩
      have s6 := (Same.new (o := .lst []) hl7).trans (Same.new (o := .tup [V.str r, V.bl sh, wv', ixV (newPg r sh s' lo (j : Int)).ix, V.ref l7]) ht4)
      have LZ2 := LZ.same s6
      have hz2 := s6 _ _ hz
      refine ⟨_, rfl, _, rfl, _, rfl, _, _, rfl, rfl, d, _, rfl, DPut.k (k := Sum.inl (due + (j : Int))) hz2 (Nat.lt_of_le_of_lt (by omega : z.length ≤ 10000) (by decide)), ⟨_, rfl⟩, ?_, ?_⟩
      · exact (hsZ.kt (Kt.same s6)).kt (Kt.upd hz2 rfl)
      · exact LZ2.add hd hv hz2 (by omega) (by omega) wf ⟨t4, wv', l7, rfl, upd_same, hsZ.kt (Kt.same s6), Same.new ht4 _ _ upd_same⟩ (mapT_succ L due j r sh s' lo)
    · rintro σ Z ⟨⟨c10, rfl⟩, hsZ, LZ⟩
      rw [ec'] at LZ
      exact k Z S' _ _ _ _ ep LZ (hk.put (T := some (mapT L due c r sh s' lo)) etb)
end
end My
set_option Elab.async false
set_option linter.all false
set_option maxRecDepth 100000
set_option maxHeartbeats 4000000
namespace My
open PySem L2
local macro_rules | `(tactic| walk_at "ds") => `(tactic| dsimp only [tSeq, tIfS, tTest, tB, tAnd, tOr, tNot, tAndV, tOrV, tNotV, tIf, tIsN, tNotN, tOp, tUn, tChain, rI, rI0, rU, tC, tCB, tCons, tNil, tAsg, gName, gSub, tRet, tRetN, tNext, tDrop, tLst, tTup, rIxL, rIxT, rSetL, tVar, tFld, tCall, tDGet, tDIn, tDNotIn, tNever, L2.start, List.map, List.replicate, List.length, List.append, List.cons_append, List.nil_append, List.set, Nat.sub])
local macro_rules | `(tactic| walk_at "hp") => `(tactic| first | assumption | exact upd_same | (refine Eq.trans (upd_ne (by first | assumption | (apply Ne.symm; assumption))) ?_; walk_at "hp"))
local macro_rules | `(tactic| walk_at "sd") => `(tactic| first
  | (show (_ : Int) ≠ 0; omega)
  | (refine (show CDivN _ _ from ⟨?_, ?_⟩) <;> omega)
  | (show CPow _ _; refine ⟨by omega, by omega, by omega⟩)
  | (show CMul _ _; exact Or.inl ⟨by omega, by omega⟩)
  | (show CMul _ _; exact Or.inr ⟨by omega, by omega⟩))
local macro_rules | `(tactic| walk_at "st") => `(tactic| first
  | refine ⟨_, rfl, ?_⟩
  | refine ⟨_, _, rfl, rfl, (by walk_at "sd"), ?_⟩
  | refine ⟨_, _, rfl, rfl, ?_⟩
  | refine ⟨_, _, _, _, rfl, rfl, SqL.of (by walk_at "hp"), rfl, ?_⟩
  | refine ⟨_, _, _, _, rfl, rfl, (by walk_at "hp"), rfl, ?_⟩
  | refine .inl ⟨_, rfl, ?_⟩
  | refine ⟨_, _, _, _, _, rfl, (by walk_at "hp"), (by assumption), (by assumption), rfl, ?_⟩
  | refine ⟨_, _, rfl, .inl (SqL.of (by walk_at "hp")), ?_⟩)
local macro_rules | `(tactic| walk_at "go") => `(tactic| repeat (first | walk_at "st" | (walk_at "ds"; walk_at "st")))
local macro_rules | `(tactic| walk_at "ni") => `(tactic| dsimp (config := { proj := false }) only [tNil, List.cons_append, List.nil_append])
def inK (ks : List (Key × V)) (n : Int) : Bool := ks.any fun kv => decide (kv.1 = Sum.inl n)
theorem inK_snoc (ks : List (Key × V)) (n0 : Int) (v : V) (n : Int) : inK (ks ++ [(Sum.inl n0, v)]) n = (inK ks n || decide (n = n0)) := by
  unfold inK
  rw [List.any_append]
  congr 1
  show (decide ((Sum.inl n0 : Key) = Sum.inl n) || false) = decide (n = n0)
  rw [Bool.or_false, decide_eq_decide]
  exact ⟨fun e => (Sum.inl.inj e).symm, fun e => by rw [e]⟩
def chJ (L : Tb) (ks : List (Key × V)) : Tb := fun n => if inK ks n = true then childT L n else none
theorem chJ_all {L : Tb} {z : List (Key × V)} (zs : ∀ n, (valV z (Sum.inl n)).isSome = (L n).isSome) : chJ L z = childT L := by
  funext n
  unfold chJ
  split
  · rfl
  · rename_i h
    have e : inK z n = (valV z (Sum.inl n)).isSome := valV_any _ _
    rw [e, zs] at h
    unfold childT
    cases e2 : L n with
    | none => rfl
    | some g => rw [e2] at h; exact absurd rfl h
section
variable {P : Program} {w : World} {K : PySem.W.Frag} {mg : Str → Option Value} {base : Heap} {A : Adr}
def spStep (A : Adr) : Sp := fun vs H Q _ => ∃ (W : Wo) (S : Sys) (τ : Tm) (ρ : Addr → Option Int) (M : Mo) (kvs : List (Key × V)) (B m : Nat), vs = [.ref W.a, .ref W.x, .ref W.sp, .ref W.st] ∧
  Lw A W H S τ ρ M kvs S.o S.p B m ∧ Lk S M ∧ m < 900 ∧ B < 800000 ∧
  ∀ (H' : Hp) (S' : Sys) (τ' : Tm) (ρ' : Addr → Option Int) (M' : Mo) (kvs' : List (Key × V)), Lw A W H' S' τ' ρ' M' kvs' S'.o S'.p (B + 14) (m + 1) → Lk S' M' → Q (.bl true) H'
theorem ok__law_step (G : Txt K mg A) : FnOk P w K mg base CX0 8 A.a__law_step A.fd__law_step p__law_step (spStep A) := by
  refine G.f__law_step.ok sc__law_step (fun vs H Q E h => ?_) (fun cdv A' outer s H vs Q E hr h => ?_)
  · obtain ⟨W, S, τ, ρ, M, kvs, B, m, rfl, _⟩ := h
    rfl
  · obtain ⟨W, S, τ, ρ, M, kvs, B, m, rfl, hL, hk, hm, hB, k⟩ := h
    refine ⟨_, (pss_cons (ps_set (i := 4) sc__law_step.nd rfl (Or.inl rfl) (pe_call (ok__law_drawI G) (hr.mono (by decide)) rfl G.g__law_draw G.k__law_draw G.bi__law_draw .nil pass0 (pa_cons (pv 0) (pa_cons pe_int pa_nil))))
  (pss_cons (ps_set (i := 5) sc__law_step.nd rfl (Or.inl rfl) (pe_call (ok__law_oneI G) (hr.mono (by decide)) rfl G.g__law_one G.k__law_one G.bi__law_one .nil pass0 (pa_cons (pv 0) (pa_cons (pe_callB (call_sortedDL rfl) (by rfl) G.b_sorted (by decide +kernel) (pa_cons (pv 2) pa_nil)) pa_nil))))
  (pss_cons (ps_if (pt_cmpR op_lt (pv 4) pe_int (nomark _)) (pss_one (ps_ret (pe_call (ok__law_mapped G) (hr.mono (by decide)) rfl G.g__law_mapped G.k__law_mapped G.bi__law_mapped .nil pass0 (pa_cons (pv 0) (pa_cons (pv 1) (pa_cons (pv 2) (pa_cons (pv 3) pa_nil))))))) pss_nil)
  (pss_cons (ps_if (pt_cmpR op_lt (pv 4) pe_int (nomark _)) (pss_one (ps_expr (pe_call (ok__law_changed G) (hr.mono (by decide)) rfl G.g__law_changed G.k__law_changed G.bi__law_changed .nil pass0 (pa_cons (pv 0) (pa_cons (pv 1) (pa_cons (pv 2) (pa_cons (pv 5) pa_nil))))))) (pss_one (ps_if (pt_cmpR op_lt (pv 4) pe_int (nomark _)) (pss_one (ps_expr (pe_call (ok__law_ended G) (hr.mono (by decide)) rfl G.g__law_ended G.k__law_ended G.bi__law_ended .nil pass0 (pa_cons (pv 0) (pa_cons (pv 1) (pa_cons (pv 2) (pa_cons (pv 5) pa_nil))))))) (pss_one (ps_if (pt_cmpR op_lt (pe_callB call_lenD (by rfl) G.b_len (by decide +kernel) (pa_cons (pv 2) pa_nil)) pe_int (nomark _)) (pss_cons (ps_dput (hu_of hr) (pv 3) pe_str (pe_op op_add (pe_dget (hu_of hr) (pv 3) pe_str (fun _ _ => rfl)) pe_int) rfl)
  (pss_cons (ps_if (pt_cmpR op_eq (pe_call (ok__law_drawI G) (hr.mono (by decide)) rfl G.g__law_draw G.k__law_draw G.bi__law_draw .nil pass0 (pa_cons (pv 0) (pa_cons pe_int pa_nil))) pe_int (nomark _)) (pss_cons (ps_dput (hu_of hr) (pv 2) (pe_dget (hu_of hr) (pv 3) pe_str (fun _ _ => rfl)) pe_dnewK rfl)
  (pss_one (ps_ret (pe_cmpR op_eq (pe_call (ok_spawn G) (hr.mono (by decide)) rfl G.g_spawn G.k_spawn G.bi_spawn .nil pass0 (pa_cons (pv 1) pa_nil)) (pe_dget (hu_of hr) (pv 3) pe_str (fun _ _ => rfl)) (nomark _))))) pss_nil)
  (pss_cons (ps_set (i := 6) sc__law_step.nd rfl (Or.inl rfl) pe_dnewK)
  (pss_cons (ps_lock (ps_for PassesOwn.never rfl (pi_keys (pe_dget (hu_of hr) (pv 2) (pv 5) (fun _ _ => rfl))) (pg_name (i := 7) sc__law_step.nd rfl (Or.inl rfl)) (pss_one (ps_if (pt_cmpR (r := rIn K true) op_notIn_seq pe_str (pe_ix ix_tup (pe_dget (hu_of hr) (pe_dget (hu_of hr) (pv 2) (pv 5) (fun _ _ => rfl)) (pv 7) (fun _ _ => rfl)) pe_int (fun _ _ => rfl)) (by rfl)) (pss_one (ps_dput (hu_of hr) (pv 6) (pv 7) (pe_dget (hu_of hr) (pe_dget (hu_of hr) (pv 2) (pv 5) (fun _ _ => rfl)) (pv 7) (fun _ _ => rfl)) rfl)) pss_nil))))
  (pss_cons (ps_dput (hu_of hr) (pv 2) (pe_dget (hu_of hr) (pv 3) pe_str (fun _ _ => rfl)) (pv 6) rfl)
  (pss_one (ps_ret (pe_cmpR op_eq (pe_call (ok_fork G) (hr.mono (by decide)) rfl G.g_fork G.k_fork G.bi_fork .nil passL (pa_cons (pv 1) (pa_cons (pv 5) pa_nil))) (pe_dget (hu_of hr) (pv 3) pe_str (fun _ _ => rfl)) (nomark _))))))))) pss_nil)))))
  (pss_one (ps_ret pe_bl)))))), ?_⟩
    have fw := hL.few
    have lastG : ∀ {n : Int} {Z : Hp} {o' : Int}, Z W.st = some (.dK (stK o' n)) → DGet Z W.st (.str "last") (some (.int n)) := fun {n Z o'} h => by
      rw [← st_last o' n]
      exact DGet.k (k := Sum.inr "last") h
    refine ⟨_, rfl, ?_⟩
    show spDrawI [.ref W.a, .int 8] H _ _
    refine hL.drawQ (by omega) (by decide) (by decide) fun way H1 y0 y1 b1 L1 => ?_
    obtain ⟨gg, di, hgg⟩ := id L1.sv
    refine ⟨_, rfl, _, rfl, W.sp, kvs, intsOf kvs, rfl, .inl L1.hs, di.keys, fun ys l1 hperm _ hl1 => ?_⟩
    have ly : (ys.map V.int).length = kvs.length := by rw [List.length_map, hperm.length_eq, intsOf_length]
    show spOneI K [.ref W.a, .ref l1] (upd H1 l1 (.lst (ys.map V.int))) _ _
    refine L1.oneQ (by omega) hl1 (by omega) (by omega) fun v H2 hv0 b2 L2 => ?_
    obtain ⟨i, hi, rfl⟩ := List.mem_map.mp hv0
    obtain ⟨L, eM⟩ := intsOf_mem hL (hperm.mem_iff.mp hi)
    obtain ⟨d, hv, hd, sr⟩ := L2.space eM
    have eT : S.tabs i = some L := (hk i).trans eM
    clear hv0 hi hperm ly hl1 b1 b2 L1 di hgg
    refine ⟨_, rfl, _, _, rfl, rfl, _, rfl, iteD (fun e1 => ?_) (fun e1 => ?_)⟩
    · refine ⟨_, rfl, _, rfl, _, rfl, _, rfl, W, S, τ, ρ, M, kvs, S.p, _, m, rfl, L2, hk, hm, by omega, fun H' S' τ' ρ' M' kvs' ep L' hk' => ?_⟩
      exact k H' S' τ' ρ' M' kvs' (by rw [ep]; exact L'.mono (by omega) (by omega)) hk'
    refine ⟨_, rfl, _, _, rfl, rfl, _, rfl, iteD (fun e2 => ?_) (fun e2 => ?_)⟩
    · refine ⟨_, rfl, _, rfl, _, rfl, _, rfl, W, S, τ, ρ, M, kvs, S.o, S.p, _, m, i, L, rfl, L2, hk, eM, hm, by omega, fun H' S' τ' ρ' M' kvs' eo ep L' hk' => ?_⟩
      exact k H' S' τ' ρ' M' kvs' (by rw [ep, eo]; exact L'.mono (by omega) (by omega)) hk'
    refine ⟨_, rfl, _, _, rfl, rfl, _, rfl, iteD (fun e3 => ?_) (fun e3 => ?_)⟩
    · refine ⟨_, rfl, _, rfl, _, rfl, _, rfl, W, S, τ, ρ, M, kvs, S.o, S.p, _, m, i, L, rfl, L2, hk, eM, hm, by omega, fun H' S' τ' ρ' M' kvs' eo ep L' hk' => ?_⟩
      exact k H' S' τ' ρ' M' kvs' (by rw [ep, eo]; exact L'.mono (by omega) (by omega)) hk'
    refine ⟨_, rfl, W.sp, kvs, rfl, L2.hs, _, _, rfl, rfl, _, rfl, iteD (fun e4 => ?_) (fun e4 => ?_)⟩
    rotate_left
    · exact k H2 S τ ρ M kvs (L2.up.mono (by omega) (by omega)) hk
    have l4 : kvs.length < 4 := by omega
    have bp := hL.bp
    have bo := hL.bo
    -- one more process
    refine ⟨_, rfl, W.st, .int S.p, rfl, lastG L2.hst, _, _, rfl, rfl, _, rfl, W.st, _, rfl, DPut.k (k := Sum.inr "last") L2.hst (by show 2 < sizeLine; decide), ?_⟩
    rw [st_putP]
    have L3 := L2.putSt (o' := S.o) (p' := S.p + 1)
    generalize upd H2 W.st (.dK (stK S.o (S.p + 1))) = H3 at *
    refine ⟨_, rfl, ?_⟩
    show spDrawI [.ref W.a, .int 3] H3 _ _
    refine L3.drawQ (by omega) (by decide) (by decide) fun dr H4 _ _ b4 L4 => ⟨rfl, _, rfl, iteB (fun e5 => ?_) (fun e5 => ?_)⟩
    · -- spawn
      intro q hq
      have L5 := L4.same (Same.new (o := .dK []) hq)
      have rq : ρ q = none := by
        cases e : ρ q with
        | none => rfl
        | some j =>
          obtain ⟨_, y, e2⟩ := L4.tr q j e
          rw [hq] at e2
          cases e2
      have nq : q ≠ W.sp := (ne_of_none L4.hs hq).symm
      have nt : q ≠ W.st := (ne_of_none L4.hst hq).symm
      refine ⟨_, rfl, _, rfl, W.st, .int (S.p + 1), rfl, lastG L5.hst, W.sp, _, rfl, DPut.k (k := Sum.inl (S.p + 1)) L5.hs (Nat.lt_of_le_of_lt (by omega : kvs.length ≤ 10000) (by decide)), ?_⟩
      have L6 := L5.putNew (i := S.p + 1) (L' := fun _ => none) rq (L4.sy.fresh hq) nq nt ⟨[], _, upd_same, DI.nil, fun _ => True.intro, fun _ h => (nomatch h)⟩ (by have := length_putK kvs (Sum.inl (S.p + 1)) (V.ref q); omega)
      refine ⟨_, rfl, W.x, W.wh, S, τ, rfl, L6.sy, by omega, fun H7 τ7 g7 S7 => ?_⟩
      have L7 := L6.go (m' := m + 1) g7 S7 (by show S.p + 1 ≤ _; omega) (by show S.o ≤ _; omega) rfl
      refine ⟨_, rfl, W.st, .int (S.p + 1), rfl, lastG L7.hst, rfl, ?_⟩
      rw [decide_eq_true rfl]
      exact k _ (spnS S) _ _ _ _ (L7.mono (by omega) (by omega)) (hk.put (fun j => rfl))
    · -- fork
      intro q hq
      have s5 := Same.new (o := .dK []) hq
      have L5 := L4.same s5
      obtain ⟨z, g, hz, dg, hg, bd, zl, zs⟩ := L4.dict eM hv
      have hz5 := s5 _ _ hz
      have nds : W.sp ≠ d := fun u => by rw [← u, L4.rs] at hd; cases hd
      have ndt : W.st ≠ d := fun u => by rw [← u, L4.rst] at hd; cases hd
      have nqd : q ≠ d := (ne_of_none hz hq).symm
      refine ⟨d, _, hz5, trivial, fun od => ?_⟩
      have spG : ∀ {Z : Hp}, Wk d H4 Z → DGet Z W.sp (.int i) (some (.ref d)) := fun {Z} wk => by
        rw [← hv]
        exact DGet.k (k := Sum.inl i) (wk _ _ nds L4.hs)
      have wk0 : Wk d H4 (upd (upd H4 q (.dK [])) d (.frz od (.dK z))) := fun b o nb e => by
        rw [upd_ne nb]
        exact s5 _ _ e
      refine ⟨_, rfl, _, rfl, W.sp, .ref d, rfl, spG wk0, d, od, rfl, .inl ⟨z, upd_same, for_it walk_keys (fun j σ Z => (∃ c7, σ = [some (.ref W.a), some (.ref W.x), some (.ref W.sp), some (.ref W.st), some (.int way), some (.int i), some (.ref q), c7]) ∧ Z d = some (.frz od (.dK z)) ∧ Wk d H4 Z ∧
        ∃ ck cf, Z q = some (.dK ck) ∧ ck.length ≤ j ∧ DI ck cf ∧ ∀ n, RwO H4 (cf n) (chJ L (z.take j) n)) ⟨⟨_, rfl⟩, upd_same, wk0, [], _, by rw [upd_ne nqd, upd_same], Nat.le_refl _, DI.nil, fun n => True.intro⟩ (fun j σ Z _ z => z.2.1) ?_ ?_⟩⟩
      · rintro j y σ Z0 Z hj ⟨⟨c7, rfl⟩, zd, wk, ck, cf, zq, lc, dc, hc⟩ ⟨rfl, key, v, hkv, rfl⟩
        obtain ⟨n, en, ef⟩ := dg.of_mem (List.mem_of_getElem? hkv)
        simp only at en ef
        subst en
        have rel := hg n
        rw [ef] at rel
        obtain ⟨pg, epg, wf, hrow⟩ : ∃ pg, L n = some pg ∧ WfP pg ∧ RwR H4 v pg := by
          cases e : L n with
          | none => rw [e] at rel; exact rel.elim
          | some pg => rw [e] at rel; exact ⟨pg, rfl, rel.1, rel.2⟩
        have kt := wk.kt hz
        have tk := take_succ hkv
        have hval : valV z (Sum.inl n) = some v := by rw [dg.val, ef]
        obtain ⟨t, sv, fa, rfl, ht, hsv, hfa⟩ := hrow.kt kt
        have dG : DGet Z d (.int n) (some (.ref t)) := .inl ⟨z, Sum.inl n, .inr ⟨od, zd⟩, rfl, hval.symm⟩
        have jl : j < 512 := by
          obtain ⟨h1, _⟩ := List.getElem?_eq_some_iff.mp hkv
          omega
        refine ⟨_, rfl, _, rfl, W.sp, .ref d, rfl, spG wk, _, rfl, d, .ref t, rfl, dG, t, _, _, _, rfl, rfl, SqT.of ht, rfl, fa, _, rfl, .inl (SqL.of hfa), rfl, flags_flat _, _, rfl, ?_⟩
        rw [if_pos rfl, flags_stay]
        have sn : ∀ n', chJ L (z.take (j + 1)) n' = if n' = n then childT L n else chJ L (z.take j) n' := fun n' => by
          unfold chJ
          rw [tk, inK_snoc]
          by_cases e : n' = n
          · rw [if_pos e, e, decide_eq_true rfl, Bool.or_true, if_pos rfl]
          · rw [if_neg e, decide_eq_false e, Bool.or_false]
        have cg : childT L n = if pg.fl.s = true then none else some pg := by
          unfold childT
          rw [epg]
          rfl
        refine iteB (fun e => ?_) (fun e => ?_)
        · have es : pg.fl.s = false := by
            cases h : pg.fl.s with
            | false => rfl
            | true => rw [h] at e; cases e
          refine ⟨_, rfl, _, rfl, W.sp, .ref d, rfl, spG wk, _, rfl, d, .ref t, rfl, dG, _, rfl, _, rfl, q, _, rfl, DPut.k (k := Sum.inl n) zq (Nat.lt_of_le_of_lt (by omega : ck.length ≤ 10000) (by decide)), ⟨_, rfl⟩, ?_, fun b o nb e' => ?_, _, _, upd_same, Nat.le_trans (length_putK _ _ _) (by omega), dc.put n (.ref t), fun n' => ?_⟩
          · rw [upd_ne (Ne.symm nqd)]
            exact zd
          · rw [upd_ne (ne_of_none e' hq)]
            exact wk _ _ nb e'
          · rw [sn]
            by_cases e2 : n' = n
            · simp only [if_pos e2]
              rw [cg, es, if_neg Bool.false_ne_true]
              exact ⟨wf, hrow⟩
            · simp only [if_neg e2]
              exact hc n'
        · have es : pg.fl.s = true := by
            cases h : pg.fl.s with
            | true => rfl
            | false => rw [h] at e; cases e
          refine ⟨⟨_, rfl⟩, zd, wk, ck, cf, zq, by omega, dc, fun n' => ?_⟩
          rw [sn]
          by_cases e2 : n' = n
          · rw [if_pos e2]
            have h := hc n'
            have e3 : chJ L (z.take j) n' = none := by
              unfold chJ
              rw [e2, cg, es, if_pos rfl]
              split <;> rfl
            rw [e3] at h
            rw [cg, es, if_pos rfl]
            exact h
          · rw [if_neg e2]
            exact hc n'
      · rintro σ Z ⟨⟨c7, rfl⟩, zd, wk, ck, cf, zq, lc, dc, hc⟩
        refine ⟨zd, ?_⟩
        rw [List.take_length, chJ_all zs] at hc
        have sb : Same H4 (upd Z d (.dK z)) := wk.back hz
        have L6 := L4.same sb
        have zq6 : (upd Z d (.dK z)) q = some (.dK ck) := by rw [upd_ne nqd]; exact zq
        have rq : ρ q = none := by
          cases e : ρ q with
          | none => rfl
          | some j =>
            obtain ⟨_, y, e2⟩ := L4.tr q j e
            rw [hq] at e2
            cases e2
        have nq : q ≠ W.sp := (ne_of_none L4.hs hq).symm
        have nt : q ≠ W.st := (ne_of_none L4.hst hq).symm
        refine ⟨_, rfl, _, rfl, _, rfl, W.st, .int (S.p + 1), rfl, lastG L6.hst, W.sp, _, rfl, DPut.k (k := Sum.inl (S.p + 1)) L6.hs (Nat.lt_of_le_of_lt (by omega : kvs.length ≤ 10000) (by decide)), ?_⟩
        have L7 := L6.putNew (i := S.p + 1) (L' := childT L) rq (L4.sy.fresh hq) nq nt ⟨ck, cf, zq6, dc, fun n => (hc n).kt (Kt.same sb), fun n hn => bd n (by
          cases e : L n with
          | none => unfold childT at hn; rw [e] at hn; cases hn
          | some _ => rfl)⟩ (by have := length_putK kvs (Sum.inl (S.p + 1)) (V.ref q); omega)
        refine ⟨_, rfl, _, rfl, ?_⟩
        walk_at "ni"
        refine use_fork L7.sy eT (by omega) fun H8 τ8 g8 S8 => ?_
        have L8 := L7.go (m' := m + 1) g8 S8 (by show S.p + 1 ≤ _; omega) (by show S.o ≤ _; omega) rfl
        refine ⟨_, rfl, W.st, .int (S.p + 1), rfl, lastG L8.hst, rfl, ?_⟩
        rw [decide_eq_true rfl]
        exact k _ (forkS S L) _ _ _ _ (L8.mono (by omega) (by omega)) (hk.put (fun j => rfl))
end
end My
set_option Elab.async false
set_option linter.all false
set_option maxRecDepth 100000
set_option maxHeartbeats 4000000
namespace My
open PySem L2
local macro_rules | `(tactic| walk_at "ds") => `(tactic| dsimp only [tSeq, tIfS, tTest, tB, tAnd, tOr, tNot, tAndV, tOrV, tNotV, tIf, tIsN, tNotN, tOp, tUn, tChain, rI, rI0, rU, tC, tCB, tCons, tNil, tAsg, gName, gSub, tRet, tRetN, tNext, tDrop, tLst, tTup, rIxL, rIxT, rSetL, tVar, tFld, tCall, tDGet, tDIn, tDNotIn, tNever, L2.start, List.map, List.replicate, List.length, List.append, List.cons_append, List.nil_append, List.set, Nat.sub])
local macro_rules | `(tactic| walk_at "hp") => `(tactic| first | assumption | exact upd_same | (refine Eq.trans (upd_ne (by first | assumption | (apply Ne.symm; assumption))) ?_; walk_at "hp"))
local macro_rules | `(tactic| walk_at "sd") => `(tactic| first
  | (show (_ : Int) ≠ 0; omega)
  | (refine (show CDivN _ _ from ⟨?_, ?_⟩) <;> omega)
  | (show CPow _ _; refine ⟨by omega, by omega, by omega⟩)
  | (show CMul _ _; exact Or.inl ⟨by omega, by omega⟩)
  | (show CMul _ _; exact Or.inr ⟨by omega, by omega⟩))
local macro_rules | `(tactic| walk_at "st") => `(tactic| first
  | refine ⟨_, rfl, ?_⟩
  | refine ⟨_, _, rfl, rfl, (by walk_at "sd"), ?_⟩
  | refine ⟨_, _, rfl, rfl, ?_⟩
  | refine ⟨_, _, _, _, rfl, rfl, SqL.of (by walk_at "hp"), rfl, ?_⟩
  | refine ⟨_, _, _, _, rfl, rfl, (by walk_at "hp"), rfl, ?_⟩
  | refine .inl ⟨_, rfl, ?_⟩
  | refine ⟨_, _, _, _, _, rfl, (by walk_at "hp"), (by assumption), (by assumption), rfl, ?_⟩
  | refine ⟨_, _, rfl, .inl (SqL.of (by walk_at "hp")), ?_⟩)
local macro_rules | `(tactic| walk_at "go") => `(tactic| repeat (first | walk_at "st" | (walk_at "ds"; walk_at "st")))
local macro_rules | `(tactic| walk_at "ni") => `(tactic| dsimp (config := { proj := false }) only [tNil, List.cons_append, List.nil_append])
def dRg (q : (Int × Int) × Pg) : PyData := .tuple [.int q.1.1, .int q.1.2, .str q.2.r, .bool q.2.sh, dSrc q.2.src, dIx q.2.ix, dFl q.2.fl]
theorem RowsR.dp {K : PySem.W.Frag} {H : Hp} : ∀ {vs : List V} {qs : List ((Int × Int) × Pg)}, RowsR H vs qs → DpAll K H vs (qs.map dRg)
  | [], [], _ => .nil
  | _ :: _, _ :: _, h => by
    obtain ⟨⟨t, sv, fa, rfl, e1, e2, e3⟩, hr⟩ := h
    exact .cons (.tup (SqT.of e1) (.cons (.int _) (.cons (.int _) (.cons (.str _) (.cons (.bl _) (.cons (dpSrc e2) (.cons (dpIx _) (.cons (dpFl e3) .nil)))))))) (RowsR.dp hr)
theorem layRg {q : (Int × Int) × Pg} (wf : WfP q.2) : PyData.canLay0 (dRg q) = true ∧ PyData.depth (dRg q) ≤ 3 := by
  obtain ⟨o1, o2, o3, o4, o5⟩ := str_ok5
  have h1 := wf.okR
  have h2 := wf.okN
  obtain ⟨⟨a, b⟩, r, sh, s, i, ⟨f1, f2, f3⟩⟩ := q
  simp only at h1 h2
  cases s with
  | non => cases i <;> cases f1 <;> cases f2 <;> cases f3 <;> simp [dRg, dSrc, dIx, dFl, flL, PyData.canLay0, PyData.canLayAll0, PyData.depth, PyData.depthAll, h1, o3, o4, o5]
  | file n =>
    have h3 := h2 n rfl
    cases i <;> cases f1 <;> cases f2 <;> cases f3 <;> simp [dRg, dSrc, dIx, dFl, flL, PyData.canLay0, PyData.canLayAll0, PyData.depth, PyData.depthAll, h1, h3, o1, o3, o4, o5]
  | obj k => cases i <;> cases f1 <;> cases f2 <;> cases f3 <;> simp [dRg, dSrc, dIx, dFl, flL, PyData.canLay0, PyData.canLayAll0, PyData.depth, PyData.depthAll, h1, o2, o3, o4, o5]
theorem lay_rgs : ∀ qs : List ((Int × Int) × Pg), (∀ q ∈ qs, WfP q.2) → PyData.canLayAll0 (qs.map dRg) = true ∧ PyData.depthAll (qs.map dRg) ≤ 3
  | [], _ => ⟨rfl, Nat.zero_le _⟩
  | q :: r, h => by
    obtain ⟨a, b⟩ := lay_rgs r fun z hz => h z (List.mem_cons_of_mem _ hz)
    obtain ⟨c, d⟩ := layRg (h q List.mem_cons_self)
    rw [List.map_cons]
    refine ⟨by simp [PyData.canLayAll0, a, c], ?_⟩
    simp only [PyData.depthAll]
    omega
theorem shaped_rgs {qs : List ((Int × Int) × Pg)} (h : ∀ q ∈ qs, WfP q.2) : SeqAt.shaped (.list (qs.map dRg)) = true ∧ PyData.eqv (.list (qs.map dRg)) (.list (qs.map dRg)) = true := by
  obtain ⟨a, b⟩ := lay_rgs qs h
  have c : PyData.canLay0 (.list (qs.map dRg)) = true := by simp [PyData.canLay0, a]
  exact ⟨shaped_of c (by simp [PyData.depth]; omega), SeqAt.eqv_refl _ c⟩
theorem eqv_ints (ns : List Int) : PyData.eqv (.list (ns.map PyData.int)) (.list (ns.map PyData.int)) = true := SeqAt.eqv_refl _ (by simp [PyData.canLay0, lay_ints ns])
theorem st_merge : mergeK [] [(Sum.inr ("objects" : Str), V.int 0), (Sum.inr ("last" : Str), V.int 1)] = stK 0 1 := by
  unfold mergeK
  simp only [List.foldl_cons, List.foldl_nil]
  have e1 : putK ([] : List (Key × V)) (Sum.inr ("objects" : Str)) (.int 0) = ([(Sum.inr ("objects" : Str), V.int 0)] : List (Key × V)) := rfl
  have e2 : putK [((Sum.inr ("objects" : Str) : Key), V.int 0)] (Sum.inr ("last" : Str)) (.int 1) = stK 0 1 := putK_new _ (by rw [valV_neg st_ne]; rfl)
  rw [e1, e2]
theorem regL_page {T : Tb} {q : (Int × Int) × Pg} (h : q ∈ regL T) : T q.1.1 = some q.2 := by
  unfold regL withP at h
  obtain ⟨p, _, e⟩ := List.mem_filterMap.mp h
  cases eT : T p.1 with
  | none => rw [eT] at e; cases e
  | some g =>
    rw [eT] at e
    have e1 := Option.some.inj e
    rw [← e1]
    exact eT
section
variable {P : Program} {w : World} {K : PySem.W.Frag} {mg : Str → Option Value} {base : Heap} {A : Adr}
def spLaw (K : PySem.W.Frag) : Sp := fun vs H Q _ => ∃ (a : Addr) (ns : List Int), vs = [.ref a] ∧ SqL K H a (ns.map V.int) ∧ ns.length ≤ 63 ∧ ∀ H', Q (.bl true) H'
theorem ok_law (G : Txt K mg A) : FnOk P w K mg base CX0 9 A.a_law A.fd_law p_law (spLaw K) := by
  obtain ⟨ds, hIV, hIB⟩ := init_binds G
  refine G.f_law.ok sc_law (fun vs H Q E h => ?_) (fun cdv A' outer s H vs Q E hr h => ?_)
  · obtain ⟨a, ns, rfl, _⟩ := h
    rfl
  · obtain ⟨a0, ns, rfl, hS, hn, k⟩ := h
    refine ⟨_, (pss_cons (ps_for PassesOwn.never rfl (pi_list (pe_op op_cat (pe_slice sl_list (pv 0) po_none (po_some pe_int)) (pe_lst (pa_cons pe_int (pa_cons pe_int pa_nil))))) (pg_name (i := 1) sc_law.nd rfl (Or.inl rfl)) (pss_cons (ps_set (i := 2) sc_law.nd rfl (Or.inl rfl) (pe_call (ok__law_well G) (hr.mono (by decide)) rfl G.g__law_well G.k__law_well G.bi__law_well .nil pass0 (pa_cons (pv 1) pa_nil)))
  (pss_cons (ps_set (i := 3) sc_law.nd rfl (Or.inl rfl) (pe_make0 G.mk_System (ok_System_init G) (hr.mono (by decide)) rfl G.g_System hIB hIV pass0))
  (pss_cons (ps_expr (pe_call (ok_create G) (hr.mono (by decide)) rfl G.g_create G.k_create G.bi_create .nil passL (pa_cons (pv 3) (pa_cons pe_str (pa_cons pe_int pa_nil)))))
  (pss_cons (ps_expr (pe_call (ok_create G) (hr.mono (by decide)) rfl G.g_create G.k_create G.bi_create .nil passL (pa_cons (pv 3) (pa_cons pe_str (pa_cons (pe_call (ok__law_draw G) (hr.mono (by decide)) rfl G.g__law_draw G.k__law_draw G.bi__law_draw .nil pass0 (pa_cons (pv 2) (pa_cons pe_int pa_nil))) pa_nil)))))
  (pss_cons (ps_set (i := 4) sc_law.nd rfl (Or.inl rfl) (pe_disp (pps_cons (pe_call (ok_spawn G) (hr.mono (by decide)) rfl G.g_spawn G.k_spawn G.bi_spawn .nil pass0 (pa_cons (pv 3) pa_nil)) pe_dnewK pps_nil) (by rfl) (by rfl) (fun z => by cases z) (by decide)))
  (pss_cons (ps_set (i := 5) sc_law.nd rfl (Or.inl rfl) (pe_disp (pps_cons pe_str pe_int (pps_cons pe_str pe_int pps_nil)) (by rfl) (by rfl) (fun z => by cases z) (by decide)))
  (pss_one (ps_for PassesOwn.never rfl (pi_range1 rfl G.b_range (pa_cons (pe_op op_add pe_int (pe_call (ok__law_draw G) (hr.mono (by decide)) rfl G.g__law_draw G.k__law_draw G.bi__law_draw .nil pass0 (pa_cons (pv 2) (pa_cons pe_int pa_nil)))) pa_nil)) (pg_name (i := 6) sc_law.nd rfl (Or.inl rfl)) (pss_cons (ps_if (PW.pt (pw_or (pt_not (pt_val (pe_call (ok__law_step G) (hr.mono (by decide)) rfl G.g__law_step G.k__law_step G.bi__law_step .nil pass0 (pa_cons (pv 2) (pa_cons (pv 3) (pa_cons (pv 4) (pa_cons (pv 5) pa_nil))))))) (pw_or1 (pt_cmpR (op_neD (hu64 hr)) (pe_call (ok_processes G) (hr.mono (by decide)) rfl G.g_processes G.k_processes G.bi_processes .nil pass0 (pa_cons (pv 3) pa_nil)) (pe_callB (call_sortedDL rfl) (by rfl) G.b_sorted (by decide +kernel) (pa_cons (pv 4) pa_nil)) (nomark _))))) (pss_one (ps_ret pe_bl)) pss_nil)
  (pss_one (ps_lock (ps_for PassesOwn.never rfl (pi_keys (pv 4)) (pg_name (i := 7) sc_law.nd rfl (Or.inl rfl)) (pss_cons (ps_set (i := 8) sc_law.nd rfl (Or.inl rfl) (pe_call (ok_regions G) (hr.mono (by decide)) rfl G.g_regions G.k_regions G.bi_regions .nil passL (pa_cons (pv 3) (pa_cons (pv 7) pa_nil))))
  (pss_cons (ps_if (pt_cmpR (op_neD (hu64 hr)) (pv 8) (pe_call (ok__law_regions G) (hr.mono (by decide)) rfl G.g__law_regions G.k__law_regions G.bi__law_regions .nil pass0 (pa_cons (pe_dget (hu_of hr) (pv 4) (pv 7) (fun _ _ => rfl)) pa_nil)) (nomark _)) (pss_one (ps_ret pe_bl)) pss_nil)
  (pss_one (ps_expr (pe_bm0 PySem.F.plainAttrs_list PySem.F.slot_list_clear PySem.F.type_list_clear mt_clear (pv 8)))))))))))))))))))
  (pss_one (ps_ret pe_bl))), ?_⟩
    -- script[:6] + [0, 1]
    refine ⟨_, rfl, _, rfl, a0, _, rfl, hS, fun q1 hq1 => ⟨(by show 2 ≤ sizeLine; decide), fun q2 hq2 => ?_⟩⟩
    obtain ⟨ms, hms, hml⟩ : ∃ ms : List Int, cutV (ns.map V.int) none (some 6) = ms.map V.int ∧ ms.length ≤ 63 := by
      refine ⟨(ns.drop (HT.sIx (ns.map V.int).length 0 none)).take (HT.sIx (ns.map V.int).length (ns.map V.int).length (some 6) - HT.sIx (ns.map V.int).length 0 none), ?_, ?_⟩
      · unfold cutV
        rw [List.map_take, List.map_drop]
      · rw [List.length_take, List.length_drop]
        omega
    have u1 : (upd (upd H q1 (.lst (cutV (ns.map V.int) none (some 6)))) q2 (.lst [.int 0, .int 1])) q1 = some (.lst (ms.map V.int)) := by rw [upd_ne (ne_of_none upd_same hq2), upd_same, hms]
    refine ⟨q1, q2, _, _, rfl, rfl, u1, upd_same, (by rw [List.length_map]; show ms.length + 2 ≤ sizeLine; exact Nat.le_trans (Nat.add_le_add_right hml 2) (by decide)), fun q3 hq3 => ?_⟩
    generalize hHA : upd (upd (upd H q1 (.lst (cutV (ns.map V.int) none (some 6)))) q2 (.lst [.int 0, .int 1])) q3 (.lst (ms.map V.int ++ [.int 0, .int 1])) = HA at *
    have lA : HA q3 = some (.lst (ms.map V.int ++ [.int 0, .int 1])) := by rw [← hHA, upd_same]
    have hL0 : ∀ y ∈ ms.map V.int ++ [V.int 0, V.int 1], ∃ n, y = V.int n := fun y hy => by
      rcases List.mem_append.mp hy with z | z
      · obtain ⟨n, _, rfl⟩ := List.mem_map.mp z
        exact ⟨n, rfl⟩
      · simp at z
        rcases z with rfl | rfl <;> exact ⟨_, rfl⟩
    generalize hLs : ms.map V.int ++ [V.int 0, V.int 1] = Ls at *
    refine ⟨q3, rfl, ⟨_, SqL.of lA⟩, for_list (K := K) (a := q3) (xs := Ls)
      (fun _ σ H' => (∃ c1 c2 c3 c4 c5 c6 c7 c8, σ = [some (.ref a0), c1, c2, c3, c4, c5, c6, c7, c8]) ∧ H' q3 = some (.lst Ls))
      ⟨⟨_, _, _, _, _, _, _, _, rfl⟩, lA⟩ (fun _ σ H' _ hp => SqL.of hp.2) ?_ ?_⟩
    · rintro _ y σ H0 hy ⟨⟨c1, c2, c3, c4, c5, c6, c7, c8, rfl⟩, l0⟩
      obtain ⟨n, rfl⟩ := hL0 y (List.mem_of_getElem? hy)
      -- well, system
      refine ⟨_, rfl, n, rfl, fun a H1 ha s1 w1 => ?_⟩
      refine fun x dx hx hdx hne => ⟨x, dx, rfl, upd_same, fun H3 wh τ b3 t3 S3 hfi => ⟨rfl, ?_⟩⟩
      obtain ⟨xs, hxs⟩ := id w1.lst
      have sN : Same H1 (upd (upd H1 dx (.own x)) x (.ins A.c_System dx [])) := (Same.new hdx).trans (Same.new (by rw [upd_ne (Ne.symm hne)]; exact hx))
      have keep : Same H1 H3 := fun b o e => b3 _ _ (ne_of_none e hx) (sN _ _ e)
      have tn : ∀ {b : Addr} {o : HO}, H1 b = some o → τ b = none := fun {b o} e => by
        cases z : τ b with
        | none => rfl
        | some g =>
          rcases t3 b g z with y | y
          · exact absurd y (ne_of_none e hx)
          · rw [sN _ _ e] at y; cases y
      have naq : q3 ≠ a := fun e => by rw [← e, l0] at ha; cases ha
      have w3 : WellAt H3 a 0 := w1.same ((keep _ _ hxs).trans hxs.symm)
      have l3 : H3 q3 = some (.lst Ls) := keep _ _ (s1 _ _ l0)
      have ta3 := tn hxs
      have tq3 := tn (s1 _ _ l0)
      clear sN keep tn b3 t3 hdx hne hx w1 hxs s1
      -- the first file
      refine ⟨_, rfl, x, wh, S0, τ, "a", 6, [], rfl, S3, ⟨⟨by decide +kernel, by decide +kernel⟩, by decide +kernel, by decide +kernel⟩, rfl, by decide, by decide, hfi, by decide, fun H4 τ4 kv4 g4 S4 f4 kl4 => ?_⟩
      have tn4 : ∀ {b : Addr} {o : HO}, τ b = none → H3 b = some o → τ4 b = none ∧ H4 b = some o := fun {b o} t e => by
        refine ⟨?_, g4.fr _ _ t e⟩
        rcases g4.ex b with z | ⟨_, z⟩
        · exact z.trans t
        · rw [e] at z; cases z
      obtain ⟨xs3, hx3⟩ := w3.lst
      obtain ⟨ta4, ha4⟩ := tn4 ta3 hx3
      obtain ⟨tq4, l4⟩ := tn4 tq3 l3
      have w4 : WellAt H4 a 0 := w3.same (ha4.trans hx3.symm)
      clear tn4 g4 S3 hfi w3 hx3 l3 ta3 tq3
      -- the second one
      refine ⟨_, rfl, _, rfl, a, 20, 0, rfl, by decide, by decide, w4, by decide, fun dr H5 dr0 dr1 b5 w5 => ?_⟩
      have S5 : Sr A H5 x wh (crS S0 "a") τ4 := S4.keep fun b o y c => by
        refine b5 b o (fun z => ?_) y
        rcases c with c | c
        · exact c (by rw [z]; exact ta4)
        · rw [z, ha4] at y; cases y
          obtain ⟨w0, w1, w2, e, _⟩ := w4
          rw [ha4] at e
          cases e
          cases c
      have l5 := b5 _ _ naq l4
      have naf : wh.fi ≠ a := fun z => by rw [z, ha4] at f4; cases f4
      have f5 := b5 _ _ naf f4
      obtain ⟨xs5, hx5⟩ := w5.lst
      clear b5 S4 f4 w4 l4 ha4
      refine ⟨x, wh, crS S0 "a", τ4, "bb", dr, kv4, rfl, S5, ⟨⟨by decide +kernel, by decide +kernel⟩, by decide +kernel, by decide +kernel⟩, (by show (decide (("bb" : Str) = "a") || false) = false; decide +kernel), dr0, by omega, f5, Nat.lt_of_le_of_lt kl4 (by decide), fun H6 τ6 kv6 g6 S6 _ _ => ?_⟩
      have tn6 : ∀ {b : Addr} {o : HO}, τ4 b = none → H5 b = some o → τ6 b = none ∧ H6 b = some o := fun {b o} t e => by
        refine ⟨?_, g6.fr _ _ t e⟩
        rcases g6.ex b with z | ⟨_, z⟩
        · exact z.trans t
        · rw [e] at z; cases z
      obtain ⟨ta6, ha6⟩ := tn6 ta4 hx5
      obtain ⟨tq6, l6⟩ := tn6 tq4 l5
      have w6 : WellAt H6 a 1 := w5.same (ha6.trans hx5.symm)
      have hx6 := ha6
      clear tn6 g6 S5 f5 w5 hx5 l5 ta4 tq4 kl4 ha6
      -- spaces
      intro sp hsp
      have s7 := Same.new (o := .dK []) hsp
      have S7 := S6.same s7
      have ts7 := S6.fresh hsp
      have nsa : a ≠ sp := ne_of_none hx6 hsp
      have nsq : q3 ≠ sp := ne_of_none l6 hsp
      refine ⟨_, rfl, x, wh, _, τ6, rfl, S7, by decide, fun H8 τ8 g8 S8 => ?_⟩
      have tn8 : ∀ {b : Addr} {o : HO}, τ6 b = none → (upd H6 sp (.dK [])) b = some o → τ8 b = none ∧ H8 b = some o := fun {b o} t e => by
        refine ⟨?_, g8.fr _ _ t e⟩
        rcases g8.ex b with z | ⟨_, z⟩
        · exact z.trans t
        · rw [e] at z; cases z
      obtain ⟨ta8, hx8⟩ := tn8 ta6 (s7 _ _ hx6)
      obtain ⟨tq8, l8⟩ := tn8 tq6 (s7 _ _ l6)
      obtain ⟨ts8, e8⟩ := tn8 ts7 upd_same
      have w8 : WellAt H8 a 1 := w6.same (hx8.trans hx6.symm)
      clear tn8 g8 S6 S7 s7 w6 ta6 tq6 ts7 hx6 l6
      intro d1 hd1
      have s9 := Same.new (o := .dK []) hd1
      have nd : sp ≠ d1 := ne_of_none e8 hd1
      have e9 : (upd H8 d1 (.dK [])) sp = some (.dK []) := s9 _ _ e8
      refine ⟨e9, [(Sum.inl 1, .ref d1)], rfl, (by show 1 ≤ 15; decide), ?_⟩
      have td := S8.fresh hd1
      have S9 := S8.same s9
      have S10 : Sr A (upd (upd H8 d1 (.dK [])) sp (.dK (mergeK [] [(Sum.inl 1, V.ref d1)]))) x wh (spnS (crS (crS S0 "a") "bb")) τ8 := S9.keep fun b o e c => by
        rw [upd_ne fun y => ?_]
        · exact e
        · rcases c with c | c
          · exact c (by rw [y]; exact ts8)
          · rw [y, e9] at e; cases e; cases c
      have hd10 : (upd (upd H8 d1 (.dK [])) sp (.dK (mergeK [] [(Sum.inl 1, V.ref d1)]))) d1 = some (.dK []) := by rw [upd_ne (Ne.symm nd), upd_same]
      have hs10 : (upd (upd H8 d1 (.dK [])) sp (.dK (mergeK [] [(Sum.inl 1, V.ref d1)]))) sp = some (.dK [(Sum.inl 1, V.ref d1)]) := upd_same
      have hx10 : (upd (upd H8 d1 (.dK [])) sp (.dK (mergeK [] [(Sum.inl 1, V.ref d1)]))) a = H8 a := by
        rw [upd_ne nsa, hx8]
        exact s9 _ _ hx8
      have l10 : (upd (upd H8 d1 (.dK [])) sp (.dK (mergeK [] [(Sum.inl 1, V.ref d1)]))) q3 = some (.lst Ls) := by
        rw [upd_ne nsq]
        exact s9 _ _ l8
      generalize (upd (upd H8 d1 (.dK [])) sp (.dK (mergeK [] [(Sum.inl 1, V.ref d1)]))) = H10 at *
      have w10 : WellAt H10 a 1 := w8.same hx10
      -- state
      intro st hst
      refine ⟨upd_same, [(Sum.inr "objects", .int 0), (Sum.inr "last", .int 1)], rfl, (by show 2 ≤ 15; decide), ?_⟩
      rw [upd_upd, st_merge]
      have s11 := Same.new (o := .dK (stK 0 1)) hst
      have W0 : Lw A ⟨a, x, sp, st, q3, wh, Ls⟩ (upd H10 st (.dK (stK 0 1))) (spnS (crS (crS S0 "a") "bb")) τ8 (fun b => if b = d1 then some 1 else none) (fun j => if j = 1 then some fun _ => none else none) [(Sum.inl 1, V.ref d1)] 0 1 1 0 := by
        refine ⟨w10.same (upd_ne (ne_of_none (hx10.trans hx8) hst)), S10.same s11, s11 _ _ hs10, ?_, ta8, ts8, fun b i e => ?_, if_neg nd, ⟨Nat.le_refl 1, (by show 1 ≤ 4; decide)⟩, s11 _ _ l10, tq8, naq, upd_same, S10.fresh hst, if_neg (Ne.symm (ne_of_none hd10 hst)), Ne.symm (ne_of_none hs10 hst), by decide, by decide, ⟨by decide +kernel, by decide +kernel⟩⟩
        · refine ⟨_, DI.nil.put 1 (.ref d1), fun i => ?_⟩
          by_cases ei : i = 1
          · rw [ei]
            exact ⟨d1, rfl, if_pos rfl, [], _, s11 _ _ hd10, DI.nil, fun _ => True.intro, fun _ h => (nomatch h)⟩
          · simp only [if_neg ei]
            exact True.intro
        · by_cases eb : b = d1
          · exact ⟨by rw [eb]; exact td, [], by rw [eb]; exact s11 _ _ hd10⟩
          · rw [if_neg eb] at e; cases e
      have K0 : Lk (spnS (crS (crS S0 "a") "bb")) (fun j => if j = 1 then some fun _ => none else none) := fun j => by
        show (if j = (0 : Int) + 1 then some fun _ => none else none) = (if j = 1 then some fun _ => none else none)
        by_cases ej : j = 1
        · rw [if_pos (by omega), if_pos ej]
        · rw [if_neg (by omega), if_neg ej]
      generalize (upd H10 st (.dK (stK 0 1))) = H11 at *
      have eo0 : (spnS (crS (crS S0 "a") "bb")).o = 0 := rfl
      have ep0 : (spnS (crS (crS S0 "a") "bb")).p = 1 := rfl
      generalize spnS (crS (crS S0 "a") "bb") = S1 at *
      clear s11 hst w10 l10 hx10 hs10 hd10 S10 S9 td e9 s9 hd1 e8 nd w8 l8 hx8 ts8 ta8 tq8 nsa nsq hsp S8
      obtain ⟨W, hW⟩ : ∃ W : Wo, W = ⟨a, x, sp, st, q3, wh, Ls⟩ := ⟨_, rfl⟩
      rw [← hW] at W0
      have ea : a = W.a := by rw [hW]
      have ex : x = W.x := by rw [hW]
      have es : sp = W.sp := by rw [hW]
      have et : st = W.st := by rw [hW]
      have eq : q3 = W.q := by rw [hW]
      have eL : Ls = W.Ls := by rw [hW]
      clear hW
      subst ea ex es et eq eL
      refine ⟨_, rfl, W.a, 26, 1, rfl, by decide, by decide, W0.wl, by decide, fun dq H12 dq0 dq1 b12 w12 => ?_⟩
      have W1 := W0.keep w12 b12
      refine ⟨_, _, rfl, rfl, 5 + dq, rfl, by omega, by omega, for_range (lo := 0) (n := (5 + dq).toNat) (fun i σ Z => ∃ (c6 c7 c8 : Option V) (S : Sys) (τ : Tm) (ρ : Addr → Option Int) (M : Mo) (kvs : List (Key × V)), σ = [some (.ref a0), some (.int n), some (.ref W.a), some (.ref W.x), some (.ref W.sp), some (.ref W.st), c6, c7, c8] ∧
        Lw A W Z S τ ρ M kvs S.o S.p (2 + 14 * i) i ∧ Lk S M) ⟨_, _, _, S1, _, _, _, _, rfl, by rw [eo0, ep0]; exact W1, K0⟩ ?_ ?_⟩
      · rintro i σ H9 hi ⟨c6, c7, c8, S, τ, ρ, M, kvs, rfl, L9, K9⟩
        refine ⟨_, rfl, _, rfl, _, rfl, _, rfl, W, S, τ, ρ, M, kvs, _, _, rfl, L9, K9, by omega, by omega, fun H10 S' τ' ρ' M' kvs' L10 K10 => ⟨true, rfl, iteF ?_⟩⟩
        -- the living
        obtain ⟨gs, di, hg⟩ := id L10.sv
        refine ⟨_, rfl, W.x, W.wh, S', τ', _, rfl, L10.sy, fun p1 ys hp1 pw mem => ?_⟩
        have LA := L10.same (Same.new (o := .lst (ys.map V.int)) hp1)
        refine ⟨_, rfl, W.sp, kvs', intsOf kvs', rfl, .inl LA.hs, di.keys, fun ys2 p2 hperm hpw hp2 => ?_⟩
        have ey : ys2 = ys := by
          refine lt_uniq (le_lt hpw (hperm.nodup_iff.mpr di.nodI)) pw fun j => ?_
          rw [hperm.mem_iff, di.memI, mem, K10 j]
          have r := hg j
          cases e1 : gs j with
          | none =>
            cases e2 : M' j with
            | none => exact Iff.rfl
            | some L => rw [e1, e2] at r; exact r.elim
          | some v =>
            cases e2 : M' j with
            | none => rw [e1, e2] at r; exact r.elim
            | some L => exact Iff.rfl
        subst ey
        have s2 := Same.new (o := .lst (ys2.map V.int)) hp2
        refine ⟨.list (ys2.map .int), .list (ys2.map .int), .lst (SqL.of (s2 _ _ upd_same)) (dp_ints ys2), .lst (SqL.of upd_same) (dp_ints ys2), shaped_ints' ys2, shaped_ints' ys2, _, rfl, ?_⟩
        rw [eqv_ints]
        refine iteF ?_
        have LB := LA.same s2
        clear L10 LA s2 hp1 hp2 hpw hperm mem pw
        generalize upd (upd H10 p1 (.lst (ys2.map V.int))) p2 (.lst (ys2.map V.int)) = H13 at *
        refine ⟨W.sp, _, LB.hs, trivial, fun od => ?_⟩
        refine ⟨_, rfl, W.sp, od, rfl, .inl ⟨kvs', upd_same, for_it walk_keys (fun j σ Z => (∃ c7 c8, σ = [some (.ref a0), some (.int n), some (.ref W.a), some (.ref W.x), some (.ref W.sp), some (.ref W.st), some (.int (0 + (i : Nat))), c7, c8]) ∧ Z W.sp = some (.frz od (.dK kvs')) ∧ Wk W.sp H13 Z)
          ⟨⟨_, _, rfl⟩, upd_same, fun b o n e => by rw [upd_ne n]; exact e⟩ (fun j σ Z _ z => z.2.1) ?_ ?_⟩⟩
        · rintro j y σ Z0 Z hj ⟨⟨c7, c8, rfl⟩, zsp, zs⟩ ⟨rfl, key, v, hkv, rfl⟩
          obtain ⟨p, ep, ef⟩ := di.of_mem (List.mem_of_getElem? hkv)
          simp only at ep ef
          subst ep
          have rel := hg p
          rw [ef] at rel
          obtain ⟨T, eM⟩ : ∃ T, M' p = some T := by
            cases e : M' p with
            | none => rw [e] at rel; exact rel.elim
            | some T => exact ⟨T, rfl⟩
          have eT : S'.tabs p = some T := (K10 p).trans eM
          obtain ⟨d, hv, hd, sr⟩ := LB.space eM
          have nd : d ≠ W.sp := fun u => by rw [u, LB.rs] at hd; cases hd
          have SZ := LB.sy.keep (zs.kp LB.hs LB.ts)
          have srZ : SpR Z d T := sr.kt (zs.kt LB.hs) fun o e => zs _ _ nd e
          have wfs : ∀ q ∈ regL T, WfP q.2 := fun q hq => LB.sy.wfOf eT (regL_page hq)
          obtain ⟨sh1, sh2⟩ := shaped_rgs wfs
          refine ⟨_, rfl, _, rfl, ?_⟩
          walk_at "ni"
          refine use_regs SZ eT fun q rows HQ sq hq eq rr => ?_
          have spG : DGet HQ W.sp (.int p) (some (.ref d)) := .inl ⟨kvs', Sum.inl p, .inr ⟨od, sq _ _ zsp⟩, rfl, hv.symm⟩
          refine ⟨_, rfl, _, rfl, _, rfl, W.sp, .ref d, rfl, spG, d, T, rfl, srZ.kt (Kt.same sq) (fun o e => sq _ _ e), fun q' rows' HR sr' hq' eq' rr' => ?_⟩
          have eq2 := sr' _ _ eq
          refine ⟨.list ((regL T).map dRg), .list ((regL T).map dRg), .lst (SqL.of eq2) (rr.keep (ImmK.same sr')).dp, .lst (SqL.of eq') rr'.dp, sh1, sh1, _, rfl, ?_⟩
          rw [sh2]
          refine iteF ?_
          have nqs : q ≠ W.sp := (ne_of_none zsp hq).symm
          refine ⟨_, rfl, .inl ⟨rfl, _, SqL.of eq2⟩, q, rows, rfl, rfl, eq2, ⟨_, _, rfl⟩, ?_, fun b o nb e => ?_⟩
          · rw [upd_ne (Ne.symm nqs)]
            exact sr' _ _ (sq _ _ zsp)
          · have e1 := zs _ _ nb e
            rw [upd_ne (ne_of_none e1 hq)]
            exact sr' _ _ (sq _ _ e1)
        · rintro σ Z ⟨⟨c7, c8, rfl⟩, zsp, zs⟩
          exact ⟨zsp, _, _, _, S', τ', ρ', M', kvs', rfl, ((LB.same (zs.back LB.hs)).mono (by omega) (by omega)), K10⟩
      · rintro σ H9 ⟨c6, c7, c8, S, τ, ρ, M, kvs, rfl, L9, K9⟩
        exact ⟨⟨_, _, _, _, _, _, _, _, rfl⟩, L9.hq⟩
    · rintro σ H' ⟨⟨c1, c2, c3, c4, c5, c6, c7, c8, rfl⟩, l0⟩
      exact k _
end
end My
set_option Elab.async false
set_option linter.all false
set_option maxRecDepth 100000
set_option maxHeartbeats 4000000
namespace My
open PySem L2
local macro_rules | `(tactic| walk_at "ds") => `(tactic| dsimp only [tSeq, tIfS, tTest, tB, tAnd, tOr, tNot, tAndV, tOrV, tNotV, tIf, tIsN, tNotN, tOp, tUn, tChain, rI, rI0, rU, tC, tCB, tCons, tNil, tAsg, gName, gSub, tRet, tRetN, tNext, tDrop, tLst, tTup, rIxL, rIxT, rSetL, tVar, tFld, tCall, tDGet, tDIn, tDNotIn, tNever, L2.start, List.map, List.replicate, List.length, List.append, List.cons_append, List.nil_append, List.set, Nat.sub])
local macro_rules | `(tactic| walk_at "hp") => `(tactic| first | assumption | exact upd_same | (refine Eq.trans (upd_ne (by first | assumption | (apply Ne.symm; assumption))) ?_; walk_at "hp"))
local macro_rules | `(tactic| walk_at "sd") => `(tactic| first
  | (show (_ : Int) ≠ 0; omega)
  | (refine (show CDivN _ _ from ⟨?_, ?_⟩) <;> omega)
  | (show CPow _ _; refine ⟨by omega, by omega, by omega⟩)
  | (show CMul _ _; exact Or.inl ⟨by omega, by omega⟩)
  | (show CMul _ _; exact Or.inr ⟨by omega, by omega⟩))
local macro_rules | `(tactic| walk_at "st") => `(tactic| first
  | refine ⟨_, rfl, ?_⟩
  | refine ⟨_, _, rfl, rfl, (by walk_at "sd"), ?_⟩
  | refine ⟨_, _, rfl, rfl, ?_⟩
  | refine ⟨_, _, _, _, rfl, rfl, SqL.of (by walk_at "hp"), rfl, ?_⟩
  | refine ⟨_, _, _, _, rfl, rfl, (by walk_at "hp"), rfl, ?_⟩
  | refine .inl ⟨_, rfl, ?_⟩
  | refine ⟨_, _, _, _, _, rfl, (by walk_at "hp"), (by assumption), (by assumption), rfl, ?_⟩
  | refine ⟨_, _, rfl, .inl (SqL.of (by walk_at "hp")), ?_⟩)
local macro_rules | `(tactic| walk_at "go") => `(tactic| repeat (first | walk_at "st" | (walk_at "ds"; walk_at "st")))
local macro_rules | `(tactic| walk_at "ni") => `(tactic| dsimp (config := { proj := false }) only [tNil, List.cons_append, List.nil_append])
open PySem L2
theorem all_mk {K : PySem.W.Frag} {h : Heap} {mg : Str → Option Value} (X : K.In h) (G : h.Ns mainGlobals mg)
    {f_with_rights : Addr} {od_with_rights an_with_rights : Option Addr} {sl_with_rights : Array (Option Value)} {oc_with_rights dc_with_rights pm_with_rights ct_with_rights : Value} {cd_with_rights : Value}
    {kV_with_rights : Value}
    {f_with_flags : Addr} {od_with_flags an_with_flags : Option Addr} {sl_with_flags : Array (Option Value)} {oc_with_flags dc_with_flags pm_with_flags ct_with_flags : Value} {cd_with_flags : Value}
    {kV_with_flags : Value}
    {f_with_lock : Addr} {od_with_lock an_with_lock : Option Addr} {sl_with_lock : Array (Option Value)} {oc_with_lock dc_with_lock pm_with_lock ct_with_lock : Value} {cd_with_lock : Value}
    {kV_with_lock : Value}
    {f_with_held : Addr} {od_with_held an_with_held : Option Addr} {sl_with_held : Array (Option Value)} {oc_with_held dc_with_held pm_with_held ct_with_held : Value} {cd_with_held : Value}
    {kV_with_held : Value}
    {f_with_stamp : Addr} {od_with_stamp an_with_stamp : Option Addr} {sl_with_stamp : Array (Option Value)} {oc_with_stamp dc_with_stamp pm_with_stamp ct_with_stamp : Value} {cd_with_stamp : Value}
    {kV_with_stamp : Value}
    {f_attributes : Addr} {od_attributes an_attributes : Option Addr} {sl_attributes : Array (Option Value)} {oc_attributes dc_attributes pm_attributes ct_attributes : Value} {cd_attributes : Value}
    {kV_attributes : Value}
    {f_has_object : Addr} {od_has_object an_has_object : Option Addr} {sl_has_object : Array (Option Value)} {oc_has_object dc_has_object pm_has_object ct_has_object : Value} {cd_has_object : Value}
    {kV_has_object : Value}
    {f_arrange_locked : Addr} {od_arrange_locked an_arrange_locked : Option Addr} {sl_arrange_locked : Array (Option Value)} {oc_arrange_locked dc_arrange_locked pm_arrange_locked ct_arrange_locked : Value} {cd_arrange_locked : Value}
    {kV_arrange_locked : Value}
    {f_add_locked : Addr} {od_add_locked an_add_locked : Option Addr} {sl_add_locked : Array (Option Value)} {oc_add_locked dc_add_locked pm_add_locked ct_add_locked : Value} {cd_add_locked : Value}
    {kV_add_locked : Value}
    {f_this_step : Addr} {od_this_step an_this_step : Option Addr} {sl_this_step : Array (Option Value)} {oc_this_step dc_this_step pm_this_step ct_this_step : Value} {cd_this_step : Value}
    {kV_this_step : Value}
    {f_count_page : Addr} {od_count_page an_count_page : Option Addr} {sl_count_page : Array (Option Value)} {oc_count_page dc_count_page pm_count_page ct_count_page : Value} {cd_count_page : Value}
    {kV_count_page : Value}
    {f_discount_page : Addr} {od_discount_page an_discount_page : Option Addr} {sl_discount_page : Array (Option Value)} {oc_discount_page dc_discount_page pm_discount_page ct_discount_page : Value} {cd_discount_page : Value}
    {kV_discount_page : Value}
    {f_discount_user : Addr} {od_discount_user an_discount_user : Option Addr} {sl_discount_user : Array (Option Value)} {oc_discount_user dc_discount_user pm_discount_user ct_discount_user : Value} {cd_discount_user : Value}
    {kV_discount_user : Value}
    {f_replace_pages : Addr} {od_replace_pages an_replace_pages : Option Addr} {sl_replace_pages : Array (Option Value)} {oc_replace_pages dc_replace_pages pm_replace_pages ct_replace_pages : Value} {cd_replace_pages : Value}
    {kV_replace_pages : Value}
    {f_end_step : Addr} {od_end_step an_end_step : Option Addr} {sl_end_step : Array (Option Value)} {oc_end_step dc_end_step pm_end_step ct_end_step : Value} {cd_end_step : Value}
    {kV_end_step : Value}
    {f_is_integer : Addr} {od_is_integer an_is_integer : Option Addr} {sl_is_integer : Array (Option Value)} {oc_is_integer dc_is_integer pm_is_integer ct_is_integer : Value} {cd_is_integer : Value}
    {kV_is_integer : Value}
    {f_is_word : Addr} {od_is_word an_is_word : Option Addr} {sl_is_word : Array (Option Value)} {oc_is_word dc_is_word pm_is_word ct_is_word : Value} {cd_is_word : Value}
    {kV_is_word : Value}
    {f_require : Addr} {od_require an_require : Option Addr} {sl_require : Array (Option Value)} {oc_require dc_require pm_require ct_require : Value} {cd_require : Value}
    {kV_require : Value}
    {f_table_of : Addr} {od_table_of an_table_of : Option Addr} {sl_table_of : Array (Option Value)} {oc_table_of dc_table_of pm_table_of ct_table_of : Value} {cd_table_of : Value}
    {kV_table_of : Value}
    {f_numbers_of : Addr} {od_numbers_of an_numbers_of : Option Addr} {sl_numbers_of : Array (Option Value)} {oc_numbers_of dc_numbers_of pm_numbers_of ct_numbers_of : Value} {cd_numbers_of : Value}
    {kV_numbers_of : Value}
    {f_require_mapped : Addr} {od_require_mapped an_require_mapped : Option Addr} {sl_require_mapped : Array (Option Value)} {oc_require_mapped dc_require_mapped pm_require_mapped ct_require_mapped : Value} {cd_require_mapped : Value}
    {kV_require_mapped : Value}
    {f_require_unlocked : Addr} {od_require_unlocked an_require_unlocked : Option Addr} {sl_require_unlocked : Array (Option Value)} {oc_require_unlocked dc_require_unlocked pm_require_unlocked ct_require_unlocked : Value} {cd_require_unlocked : Value}
    {kV_require_unlocked : Value}
    {f_file_of : Addr} {od_file_of an_file_of : Option Addr} {sl_file_of : Array (Option Value)} {oc_file_of dc_file_of pm_file_of ct_file_of : Value} {cd_file_of : Value}
    {kV_file_of : Value}
    {f_require_charge : Addr} {od_require_charge an_require_charge : Option Addr} {sl_require_charge : Array (Option Value)} {oc_require_charge dc_require_charge pm_require_charge ct_require_charge : Value} {cd_require_charge : Value}
    {kV_require_charge : Value}
    {f_require_source : Addr} {od_require_source an_require_source : Option Addr} {sl_require_source : Array (Option Value)} {oc_require_source dc_require_source pm_require_source ct_require_source : Value} {cd_require_source : Value}
    {kV_require_source : Value}
    {f_place_for : Addr} {od_place_for an_place_for : Option Addr} {sl_place_for : Array (Option Value)} {oc_place_for dc_place_for pm_place_for ct_place_for : Value} {cd_place_for : Value}
    {kV_place_for : Value}
    {f_map_pages : Addr} {od_map_pages an_map_pages : Option Addr} {sl_map_pages : Array (Option Value)} {oc_map_pages dc_map_pages pm_map_pages ct_map_pages : Value} {cd_map_pages : Value}
    {kD_map_pages : Addr}
    {tk_rights : Tok}
    {tk_index : Tok}
    {f_new_pages : Addr} {od_new_pages an_new_pages : Option Addr} {sl_new_pages : Array (Option Value)} {oc_new_pages dc_new_pages pm_new_pages ct_new_pages : Value} {cd_new_pages : Value}
    {kV_new_pages : Value}
    {f_unmap : Addr} {od_unmap an_unmap : Option Addr} {sl_unmap : Array (Option Value)} {oc_unmap dc_unmap pm_unmap ct_unmap : Value} {cd_unmap : Value}
    {kV_unmap : Value}
    {f_protect : Addr} {od_protect an_protect : Option Addr} {sl_protect : Array (Option Value)} {oc_protect dc_protect pm_protect ct_protect : Value} {cd_protect : Value}
    {kV_protect : Value}
    {f_flags_with : Addr} {od_flags_with an_flags_with : Option Addr} {sl_flags_with : Array (Option Value)} {oc_flags_with dc_flags_with pm_flags_with ct_flags_with : Value} {cd_flags_with : Value}
    {kV_flags_with : Value}
    {f_flag : Addr} {od_flag an_flag : Option Addr} {sl_flag : Array (Option Value)} {oc_flag dc_flag pm_flag ct_flag : Value} {cd_flag : Value}
    {kD_flag : Addr}
    {f_move : Addr} {od_move an_move : Option Addr} {sl_move : Array (Option Value)} {oc_move dc_move pm_move ct_move : Value} {cd_move : Value}
    {kV_move : Value}
    {f_continues : Addr} {od_continues an_continues : Option Addr} {sl_continues : Array (Option Value)} {oc_continues dc_continues pm_continues ct_continues : Value} {cd_continues : Value}
    {kV_continues : Value}
    {f_regions : Addr} {od_regions an_regions : Option Addr} {sl_regions : Array (Option Value)} {oc_regions dc_regions pm_regions ct_regions : Value} {cd_regions : Value}
    {kV_regions : Value}
    {f_free_runs : Addr} {od_free_runs an_free_runs : Option Addr} {sl_free_runs : Array (Option Value)} {oc_free_runs dc_free_runs pm_free_runs ct_free_runs : Value} {cd_free_runs : Value}
    {kV_free_runs : Value}
    {f_lowest_gap : Addr} {od_lowest_gap an_lowest_gap : Option Addr} {sl_lowest_gap : Array (Option Value)} {oc_lowest_gap dc_lowest_gap pm_lowest_gap ct_lowest_gap : Value} {cd_lowest_gap : Value}
    {kV_lowest_gap : Value}
    {f_new_process : Addr} {od_new_process an_new_process : Option Addr} {sl_new_process : Array (Option Value)} {oc_new_process dc_new_process pm_new_process ct_new_process : Value} {cd_new_process : Value}
    {kV_new_process : Value}
    {f_unmap_all : Addr} {od_unmap_all an_unmap_all : Option Addr} {sl_unmap_all : Array (Option Value)} {oc_unmap_all dc_unmap_all pm_unmap_all ct_unmap_all : Value} {cd_unmap_all : Value}
    {kV_unmap_all : Value}
    {f_end_process : Addr} {od_end_process an_end_process : Option Addr} {sl_end_process : Array (Option Value)} {oc_end_process dc_end_process pm_end_process ct_end_process : Value} {cd_end_process : Value}
    {kV_end_process : Value}
    {f_spawn : Addr} {od_spawn an_spawn : Option Addr} {sl_spawn : Array (Option Value)} {oc_spawn dc_spawn pm_spawn ct_spawn : Value} {cd_spawn : Value}
    {kV_spawn : Value}
    {f_child_page : Addr} {od_child_page an_child_page : Option Addr} {sl_child_page : Array (Option Value)} {oc_child_page dc_child_page pm_child_page ct_child_page : Value} {cd_child_page : Value}
    {kV_child_page : Value}
    {f_pages_of_child : Addr} {od_pages_of_child an_pages_of_child : Option Addr} {sl_pages_of_child : Array (Option Value)} {oc_pages_of_child dc_pages_of_child pm_pages_of_child ct_pages_of_child : Value} {cd_pages_of_child : Value}
    {kV_pages_of_child : Value}
    {f_fork : Addr} {od_fork an_fork : Option Addr} {sl_fork : Array (Option Value)} {oc_fork dc_fork pm_fork ct_fork : Value} {cd_fork : Value}
    {kV_fork : Value}
    {f_leave : Addr} {od_leave an_leave : Option Addr} {sl_leave : Array (Option Value)} {oc_leave dc_leave pm_leave ct_leave : Value} {cd_leave : Value}
    {kV_leave : Value}
    {f_fresh : Addr} {od_fresh an_fresh : Option Addr} {sl_fresh : Array (Option Value)} {oc_fresh dc_fresh pm_fresh ct_fresh : Value} {cd_fresh : Value}
    {kV_fresh : Value}
    {f_processes : Addr} {od_processes an_processes : Option Addr} {sl_processes : Array (Option Value)} {oc_processes dc_processes pm_processes ct_processes : Value} {cd_processes : Value}
    {kV_processes : Value}
    {f_is_name : Addr} {od_is_name an_is_name : Option Addr} {sl_is_name : Array (Option Value)} {oc_is_name dc_is_name pm_is_name ct_is_name : Value} {cd_is_name : Value}
    {kV_is_name : Value}
    {f_new_pages_of_file : Addr} {od_new_pages_of_file an_new_pages_of_file : Option Addr} {sl_new_pages_of_file : Array (Option Value)} {oc_new_pages_of_file dc_new_pages_of_file pm_new_pages_of_file ct_new_pages_of_file : Value} {cd_new_pages_of_file : Value}
    {kV_new_pages_of_file : Value}
    {f_create : Addr} {od_create an_create : Option Addr} {sl_create : Array (Option Value)} {oc_create dc_create pm_create ct_create : Value} {cd_create : Value}
    {kV_create : Value}
    {f__law_well : Addr} {od__law_well an__law_well : Option Addr} {sl__law_well : Array (Option Value)} {oc__law_well dc__law_well pm__law_well ct__law_well : Value} {cd__law_well : Value}
    {kV__law_well : Value}
    {f__law_draw : Addr} {od__law_draw an__law_draw : Option Addr} {sl__law_draw : Array (Option Value)} {oc__law_draw dc__law_draw pm__law_draw ct__law_draw : Value} {cd__law_draw : Value}
    {kV__law_draw : Value}
    {f__law_one : Addr} {od__law_one an__law_one : Option Addr} {sl__law_one : Array (Option Value)} {oc__law_one dc__law_one pm__law_one ct__law_one : Value} {cd__law_one : Value}
    {kV__law_one : Value}
    {f__law_fits : Addr} {od__law_fits an__law_fits : Option Addr} {sl__law_fits : Array (Option Value)} {oc__law_fits dc__law_fits pm__law_fits ct__law_fits : Value} {cd__law_fits : Value}
    {kV__law_fits : Value}
    {f__law_regions : Addr} {od__law_regions an__law_regions : Option Addr} {sl__law_regions : Array (Option Value)} {oc__law_regions dc__law_regions pm__law_regions ct__law_regions : Value} {cd__law_regions : Value}
    {kV__law_regions : Value}
    {f__law_alive : Addr} {od__law_alive an__law_alive : Option Addr} {sl__law_alive : Array (Option Value)} {oc__law_alive dc__law_alive pm__law_alive ct__law_alive : Value} {cd__law_alive : Value}
    {kV__law_alive : Value}
    {f__law_mapped : Addr} {od__law_mapped an__law_mapped : Option Addr} {sl__law_mapped : Array (Option Value)} {oc__law_mapped dc__law_mapped pm__law_mapped ct__law_mapped : Value} {cd__law_mapped : Value}
    {kV__law_mapped : Value}
    {f__law_range : Addr} {od__law_range an__law_range : Option Addr} {sl__law_range : Array (Option Value)} {oc__law_range dc__law_range pm__law_range ct__law_range : Value} {cd__law_range : Value}
    {kV__law_range : Value}
    {f__law_changed : Addr} {od__law_changed an__law_changed : Option Addr} {sl__law_changed : Array (Option Value)} {oc__law_changed dc__law_changed pm__law_changed ct__law_changed : Value} {cd__law_changed : Value}
    {kV__law_changed : Value}
    {f__law_ended : Addr} {od__law_ended an__law_ended : Option Addr} {sl__law_ended : Array (Option Value)} {oc__law_ended dc__law_ended pm__law_ended ct__law_ended : Value} {cd__law_ended : Value}
    {kV__law_ended : Value}
    {f__law_step : Addr} {od__law_step an__law_step : Option Addr} {sl__law_step : Array (Option Value)} {oc__law_step dc__law_step pm__law_step ct__law_step : Value} {cd__law_step : Value}
    {kV__law_step : Value}
    {f_law : Addr} {od_law an_law : Option Addr} {sl_law : Array (Option Value)} {oc_law dc_law pm_law ct_law : Value} {cd_law : Value}
    {kV_law : Value}
    {C_NoProcess : Addr}
    {C_NoPages : Addr}
    {C_NotMapped : Addr}
    {C_NoFile : Addr}
    {C_Taken : Addr}
    {C_NoLock : Addr}
    {C_System : Addr}
    {C_Page : Addr}
    {C_Item : Addr}
    {C_History : Addr}
    {f_NoProcess_init : Addr} {od_NoProcess_init an_NoProcess_init : Option Addr} {sl_NoProcess_init : Array (Option Value)} {oc_NoProcess_init dc_NoProcess_init pm_NoProcess_init ct_NoProcess_init : Value} {cd_NoProcess_init : Value}
    {kV_NoProcess_init : Value}
    {f_NoPages_init : Addr} {od_NoPages_init an_NoPages_init : Option Addr} {sl_NoPages_init : Array (Option Value)} {oc_NoPages_init dc_NoPages_init pm_NoPages_init ct_NoPages_init : Value} {cd_NoPages_init : Value}
    {kV_NoPages_init : Value}
    {f_NotMapped_init : Addr} {od_NotMapped_init an_NotMapped_init : Option Addr} {sl_NotMapped_init : Array (Option Value)} {oc_NotMapped_init dc_NotMapped_init pm_NotMapped_init ct_NotMapped_init : Value} {cd_NotMapped_init : Value}
    {kV_NotMapped_init : Value}
    {f_NoFile_init : Addr} {od_NoFile_init an_NoFile_init : Option Addr} {sl_NoFile_init : Array (Option Value)} {oc_NoFile_init dc_NoFile_init pm_NoFile_init ct_NoFile_init : Value} {cd_NoFile_init : Value}
    {kV_NoFile_init : Value}
    {f_Taken_init : Addr} {od_Taken_init an_Taken_init : Option Addr} {sl_Taken_init : Array (Option Value)} {oc_Taken_init dc_Taken_init pm_Taken_init ct_Taken_init : Value} {cd_Taken_init : Value}
    {kV_Taken_init : Value}
    {f_NoLock_init : Addr} {od_NoLock_init an_NoLock_init : Option Addr} {sl_NoLock_init : Array (Option Value)} {oc_NoLock_init dc_NoLock_init pm_NoLock_init ct_NoLock_init : Value} {cd_NoLock_init : Value}
    {kV_NoLock_init : Value}
    {f_Item_init : Addr} {od_Item_init an_Item_init : Option Addr} {sl_Item_init : Array (Option Value)} {oc_Item_init dc_Item_init pm_Item_init ct_Item_init : Value} {cd_Item_init : Value}
    {kV_Item_init : Value}
    {f_Page_init : Addr} {od_Page_init an_Page_init : Option Addr} {sl_Page_init : Array (Option Value)} {oc_Page_init dc_Page_init pm_Page_init ct_Page_init : Value} {cd_Page_init : Value}
    {kV_Page_init : Value}
    {f_History_init : Addr} {od_History_init an_History_init : Option Addr} {sl_History_init : Array (Option Value)} {oc_History_init dc_History_init pm_History_init ct_History_init : Value} {cd_History_init : Value}
    {kV_History_init : Value}
    {f_System_init : Addr} {od_System_init an_System_init : Option Addr} {sl_System_init : Array (Option Value)} {oc_System_init dc_System_init pm_System_init ct_System_init : Value} {cd_System_init : Value}
    {kD_System_init : Addr}
    {nm_NoProcess q_NoProcess : Str} {N_NoProcess : Addr} {bs_NoProcess bm_NoProcess sub_NoProcess : List Value} {sn_NoProcess : List Str} {ab_NoProcess : Bool} {col_NoProcess : Option Bool} {dd_NoProcess : Option Addr} {m0_NoProcess m1_NoProcess m2_NoProcess m3_NoProcess m5_NoProcess : Option Value}
    {nm_NoPages q_NoPages : Str} {N_NoPages : Addr} {bs_NoPages bm_NoPages sub_NoPages : List Value} {sn_NoPages : List Str} {ab_NoPages : Bool} {col_NoPages : Option Bool} {dd_NoPages : Option Addr} {m0_NoPages m1_NoPages m2_NoPages m3_NoPages m5_NoPages : Option Value}
    {nm_NotMapped q_NotMapped : Str} {N_NotMapped : Addr} {bs_NotMapped bm_NotMapped sub_NotMapped : List Value} {sn_NotMapped : List Str} {ab_NotMapped : Bool} {col_NotMapped : Option Bool} {dd_NotMapped : Option Addr} {m0_NotMapped m1_NotMapped m2_NotMapped m3_NotMapped m5_NotMapped : Option Value}
    {nm_NoFile q_NoFile : Str} {N_NoFile : Addr} {bs_NoFile bm_NoFile sub_NoFile : List Value} {sn_NoFile : List Str} {ab_NoFile : Bool} {col_NoFile : Option Bool} {dd_NoFile : Option Addr} {m0_NoFile m1_NoFile m2_NoFile m3_NoFile m5_NoFile : Option Value}
    {nm_Taken q_Taken : Str} {N_Taken : Addr} {bs_Taken bm_Taken sub_Taken : List Value} {sn_Taken : List Str} {ab_Taken : Bool} {col_Taken : Option Bool} {dd_Taken : Option Addr} {m0_Taken m1_Taken m2_Taken m3_Taken m5_Taken : Option Value}
    {nm_NoLock q_NoLock : Str} {N_NoLock : Addr} {bs_NoLock bm_NoLock sub_NoLock : List Value} {sn_NoLock : List Str} {ab_NoLock : Bool} {col_NoLock : Option Bool} {dd_NoLock : Option Addr} {m0_NoLock m1_NoLock m2_NoLock m3_NoLock m5_NoLock : Option Value}
    {t_PAGES : Tok}
    {t_FILE_PAGES : Tok}
    {o_RIGHTS : Addr}
    {o_FLAGS : Addr}
    {o_ZEROS : Addr}
    (h_with_rights : PySem.W.nsIn K mainGlobals "with_rights" = some (some (.ref f_with_rights)))
    (l_with_rights : K.lookup f_with_rights = some ⟨oc_with_rights, od_with_rights, .func (PySem.W.fnOf "with_rights" "with_rights" (defArgs s_with_rights) (defBody s_with_rights) (defScope s_with_rights) .none kV_with_rights dc_with_rights pm_with_rights an_with_rights cd_with_rights ct_with_rights), sl_with_rights⟩)
    (c_with_rights : PySem.W.codeIn K cd_with_rights "with_rights" = true)
    (k_with_rights : PySem.W.keepIn K (.ref f_with_rights) = true)
    (h_with_flags : PySem.W.nsIn K mainGlobals "with_flags" = some (some (.ref f_with_flags)))
    (l_with_flags : K.lookup f_with_flags = some ⟨oc_with_flags, od_with_flags, .func (PySem.W.fnOf "with_flags" "with_flags" (defArgs s_with_flags) (defBody s_with_flags) (defScope s_with_flags) .none kV_with_flags dc_with_flags pm_with_flags an_with_flags cd_with_flags ct_with_flags), sl_with_flags⟩)
    (c_with_flags : PySem.W.codeIn K cd_with_flags "with_flags" = true)
    (k_with_flags : PySem.W.keepIn K (.ref f_with_flags) = true)
    (h_with_lock : PySem.W.nsIn K mainGlobals "with_lock" = some (some (.ref f_with_lock)))
    (l_with_lock : K.lookup f_with_lock = some ⟨oc_with_lock, od_with_lock, .func (PySem.W.fnOf "with_lock" "with_lock" (defArgs s_with_lock) (defBody s_with_lock) (defScope s_with_lock) .none kV_with_lock dc_with_lock pm_with_lock an_with_lock cd_with_lock ct_with_lock), sl_with_lock⟩)
    (c_with_lock : PySem.W.codeIn K cd_with_lock "with_lock" = true)
    (k_with_lock : PySem.W.keepIn K (.ref f_with_lock) = true)
    (h_with_held : PySem.W.nsIn K mainGlobals "with_held" = some (some (.ref f_with_held)))
    (l_with_held : K.lookup f_with_held = some ⟨oc_with_held, od_with_held, .func (PySem.W.fnOf "with_held" "with_held" (defArgs s_with_held) (defBody s_with_held) (defScope s_with_held) .none kV_with_held dc_with_held pm_with_held an_with_held cd_with_held ct_with_held), sl_with_held⟩)
    (c_with_held : PySem.W.codeIn K cd_with_held "with_held" = true)
    (k_with_held : PySem.W.keepIn K (.ref f_with_held) = true)
    (h_with_stamp : PySem.W.nsIn K mainGlobals "with_stamp" = some (some (.ref f_with_stamp)))
    (l_with_stamp : K.lookup f_with_stamp = some ⟨oc_with_stamp, od_with_stamp, .func (PySem.W.fnOf "with_stamp" "with_stamp" (defArgs s_with_stamp) (defBody s_with_stamp) (defScope s_with_stamp) .none kV_with_stamp dc_with_stamp pm_with_stamp an_with_stamp cd_with_stamp ct_with_stamp), sl_with_stamp⟩)
    (c_with_stamp : PySem.W.codeIn K cd_with_stamp "with_stamp" = true)
    (k_with_stamp : PySem.W.keepIn K (.ref f_with_stamp) = true)
    (h_attributes : PySem.W.nsIn K mainGlobals "attributes" = some (some (.ref f_attributes)))
    (l_attributes : K.lookup f_attributes = some ⟨oc_attributes, od_attributes, .func (PySem.W.fnOf "attributes" "attributes" (defArgs s_attributes) (defBody s_attributes) (defScope s_attributes) .none kV_attributes dc_attributes pm_attributes an_attributes cd_attributes ct_attributes), sl_attributes⟩)
    (c_attributes : PySem.W.codeIn K cd_attributes "attributes" = true)
    (k_attributes : PySem.W.keepIn K (.ref f_attributes) = true)
    (h_has_object : PySem.W.nsIn K mainGlobals "has_object" = some (some (.ref f_has_object)))
    (l_has_object : K.lookup f_has_object = some ⟨oc_has_object, od_has_object, .func (PySem.W.fnOf "has_object" "has_object" (defArgs s_has_object) (defBody s_has_object) (defScope s_has_object) .none kV_has_object dc_has_object pm_has_object an_has_object cd_has_object ct_has_object), sl_has_object⟩)
    (c_has_object : PySem.W.codeIn K cd_has_object "has_object" = true)
    (k_has_object : PySem.W.keepIn K (.ref f_has_object) = true)
    (h_arrange_locked : PySem.W.nsIn K mainGlobals "arrange_locked" = some (some (.ref f_arrange_locked)))
    (l_arrange_locked : K.lookup f_arrange_locked = some ⟨oc_arrange_locked, od_arrange_locked, .func (PySem.W.fnOf "arrange_locked" "arrange_locked" (defArgs s_arrange_locked) (defBody s_arrange_locked) (defScope s_arrange_locked) .none kV_arrange_locked dc_arrange_locked pm_arrange_locked an_arrange_locked cd_arrange_locked ct_arrange_locked), sl_arrange_locked⟩)
    (c_arrange_locked : PySem.W.codeIn K cd_arrange_locked "arrange_locked" = true)
    (k_arrange_locked : PySem.W.keepIn K (.ref f_arrange_locked) = true)
    (h_add_locked : PySem.W.nsIn K mainGlobals "add_locked" = some (some (.ref f_add_locked)))
    (l_add_locked : K.lookup f_add_locked = some ⟨oc_add_locked, od_add_locked, .func (PySem.W.fnOf "add_locked" "add_locked" (defArgs s_add_locked) (defBody s_add_locked) (defScope s_add_locked) .none kV_add_locked dc_add_locked pm_add_locked an_add_locked cd_add_locked ct_add_locked), sl_add_locked⟩)
    (c_add_locked : PySem.W.codeIn K cd_add_locked "add_locked" = true)
    (k_add_locked : PySem.W.keepIn K (.ref f_add_locked) = true)
    (h_this_step : PySem.W.nsIn K mainGlobals "this_step" = some (some (.ref f_this_step)))
    (l_this_step : K.lookup f_this_step = some ⟨oc_this_step, od_this_step, .func (PySem.W.fnOf "this_step" "this_step" (defArgs s_this_step) (defBody s_this_step) (defScope s_this_step) .none kV_this_step dc_this_step pm_this_step an_this_step cd_this_step ct_this_step), sl_this_step⟩)
    (c_this_step : PySem.W.codeIn K cd_this_step "this_step" = true)
    (k_this_step : PySem.W.keepIn K (.ref f_this_step) = true)
    (h_count_page : PySem.W.nsIn K mainGlobals "count_page" = some (some (.ref f_count_page)))
    (l_count_page : K.lookup f_count_page = some ⟨oc_count_page, od_count_page, .func (PySem.W.fnOf "count_page" "count_page" (defArgs s_count_page) (defBody s_count_page) (defScope s_count_page) .none kV_count_page dc_count_page pm_count_page an_count_page cd_count_page ct_count_page), sl_count_page⟩)
    (c_count_page : PySem.W.codeIn K cd_count_page "count_page" = true)
    (k_count_page : PySem.W.keepIn K (.ref f_count_page) = true)
    (h_discount_page : PySem.W.nsIn K mainGlobals "discount_page" = some (some (.ref f_discount_page)))
    (l_discount_page : K.lookup f_discount_page = some ⟨oc_discount_page, od_discount_page, .func (PySem.W.fnOf "discount_page" "discount_page" (defArgs s_discount_page) (defBody s_discount_page) (defScope s_discount_page) .none kV_discount_page dc_discount_page pm_discount_page an_discount_page cd_discount_page ct_discount_page), sl_discount_page⟩)
    (c_discount_page : PySem.W.codeIn K cd_discount_page "discount_page" = true)
    (k_discount_page : PySem.W.keepIn K (.ref f_discount_page) = true)
    (h_discount_user : PySem.W.nsIn K mainGlobals "discount_user" = some (some (.ref f_discount_user)))
    (l_discount_user : K.lookup f_discount_user = some ⟨oc_discount_user, od_discount_user, .func (PySem.W.fnOf "discount_user" "discount_user" (defArgs s_discount_user) (defBody s_discount_user) (defScope s_discount_user) .none kV_discount_user dc_discount_user pm_discount_user an_discount_user cd_discount_user ct_discount_user), sl_discount_user⟩)
    (c_discount_user : PySem.W.codeIn K cd_discount_user "discount_user" = true)
    (k_discount_user : PySem.W.keepIn K (.ref f_discount_user) = true)
    (h_replace_pages : PySem.W.nsIn K mainGlobals "replace_pages" = some (some (.ref f_replace_pages)))
    (l_replace_pages : K.lookup f_replace_pages = some ⟨oc_replace_pages, od_replace_pages, .func (PySem.W.fnOf "replace_pages" "replace_pages" (defArgs s_replace_pages) (defBody s_replace_pages) (defScope s_replace_pages) .none kV_replace_pages dc_replace_pages pm_replace_pages an_replace_pages cd_replace_pages ct_replace_pages), sl_replace_pages⟩)
    (c_replace_pages : PySem.W.codeIn K cd_replace_pages "replace_pages" = true)
    (k_replace_pages : PySem.W.keepIn K (.ref f_replace_pages) = true)
    (h_end_step : PySem.W.nsIn K mainGlobals "end_step" = some (some (.ref f_end_step)))
    (l_end_step : K.lookup f_end_step = some ⟨oc_end_step, od_end_step, .func (PySem.W.fnOf "end_step" "end_step" (defArgs s_end_step) (defBody s_end_step) (defScope s_end_step) .none kV_end_step dc_end_step pm_end_step an_end_step cd_end_step ct_end_step), sl_end_step⟩)
    (c_end_step : PySem.W.codeIn K cd_end_step "end_step" = true)
    (k_end_step : PySem.W.keepIn K (.ref f_end_step) = true)
    (h_is_integer : PySem.W.nsIn K mainGlobals "is_integer" = some (some (.ref f_is_integer)))
    (l_is_integer : K.lookup f_is_integer = some ⟨oc_is_integer, od_is_integer, .func (PySem.W.fnOf "is_integer" "is_integer" (defArgs s_is_integer) (defBody s_is_integer) (defScope s_is_integer) .none kV_is_integer dc_is_integer pm_is_integer an_is_integer cd_is_integer ct_is_integer), sl_is_integer⟩)
    (c_is_integer : PySem.W.codeIn K cd_is_integer "is_integer" = true)
    (k_is_integer : PySem.W.keepIn K (.ref f_is_integer) = true)
    (h_is_word : PySem.W.nsIn K mainGlobals "is_word" = some (some (.ref f_is_word)))
    (l_is_word : K.lookup f_is_word = some ⟨oc_is_word, od_is_word, .func (PySem.W.fnOf "is_word" "is_word" (defArgs s_is_word) (defBody s_is_word) (defScope s_is_word) .none kV_is_word dc_is_word pm_is_word an_is_word cd_is_word ct_is_word), sl_is_word⟩)
    (c_is_word : PySem.W.codeIn K cd_is_word "is_word" = true)
    (k_is_word : PySem.W.keepIn K (.ref f_is_word) = true)
    (h_require : PySem.W.nsIn K mainGlobals "require" = some (some (.ref f_require)))
    (l_require : K.lookup f_require = some ⟨oc_require, od_require, .func (PySem.W.fnOf "require" "require" (defArgs s_require) (defBody s_require) (defScope s_require) .none kV_require dc_require pm_require an_require cd_require ct_require), sl_require⟩)
    (c_require : PySem.W.codeIn K cd_require "require" = true)
    (k_require : PySem.W.keepIn K (.ref f_require) = true)
    (h_table_of : PySem.W.nsIn K mainGlobals "table_of" = some (some (.ref f_table_of)))
    (l_table_of : K.lookup f_table_of = some ⟨oc_table_of, od_table_of, .func (PySem.W.fnOf "table_of" "table_of" (defArgs s_table_of) (defBody s_table_of) (defScope s_table_of) .none kV_table_of dc_table_of pm_table_of an_table_of cd_table_of ct_table_of), sl_table_of⟩)
    (c_table_of : PySem.W.codeIn K cd_table_of "table_of" = true)
    (k_table_of : PySem.W.keepIn K (.ref f_table_of) = true)
    (h_numbers_of : PySem.W.nsIn K mainGlobals "numbers_of" = some (some (.ref f_numbers_of)))
    (l_numbers_of : K.lookup f_numbers_of = some ⟨oc_numbers_of, od_numbers_of, .func (PySem.W.fnOf "numbers_of" "numbers_of" (defArgs s_numbers_of) (defBody s_numbers_of) (defScope s_numbers_of) .none kV_numbers_of dc_numbers_of pm_numbers_of an_numbers_of cd_numbers_of ct_numbers_of), sl_numbers_of⟩)
    (c_numbers_of : PySem.W.codeIn K cd_numbers_of "numbers_of" = true)
    (k_numbers_of : PySem.W.keepIn K (.ref f_numbers_of) = true)
    (h_require_mapped : PySem.W.nsIn K mainGlobals "require_mapped" = some (some (.ref f_require_mapped)))
    (l_require_mapped : K.lookup f_require_mapped = some ⟨oc_require_mapped, od_require_mapped, .func (PySem.W.fnOf "require_mapped" "require_mapped" (defArgs s_require_mapped) (defBody s_require_mapped) (defScope s_require_mapped) .none kV_require_mapped dc_require_mapped pm_require_mapped an_require_mapped cd_require_mapped ct_require_mapped), sl_require_mapped⟩)
    (c_require_mapped : PySem.W.codeIn K cd_require_mapped "require_mapped" = true)
    (k_require_mapped : PySem.W.keepIn K (.ref f_require_mapped) = true)
    (h_require_unlocked : PySem.W.nsIn K mainGlobals "require_unlocked" = some (some (.ref f_require_unlocked)))
    (l_require_unlocked : K.lookup f_require_unlocked = some ⟨oc_require_unlocked, od_require_unlocked, .func (PySem.W.fnOf "require_unlocked" "require_unlocked" (defArgs s_require_unlocked) (defBody s_require_unlocked) (defScope s_require_unlocked) .none kV_require_unlocked dc_require_unlocked pm_require_unlocked an_require_unlocked cd_require_unlocked ct_require_unlocked), sl_require_unlocked⟩)
    (c_require_unlocked : PySem.W.codeIn K cd_require_unlocked "require_unlocked" = true)
    (k_require_unlocked : PySem.W.keepIn K (.ref f_require_unlocked) = true)
    (h_file_of : PySem.W.nsIn K mainGlobals "file_of" = some (some (.ref f_file_of)))
    (l_file_of : K.lookup f_file_of = some ⟨oc_file_of, od_file_of, .func (PySem.W.fnOf "file_of" "file_of" (defArgs s_file_of) (defBody s_file_of) (defScope s_file_of) .none kV_file_of dc_file_of pm_file_of an_file_of cd_file_of ct_file_of), sl_file_of⟩)
    (c_file_of : PySem.W.codeIn K cd_file_of "file_of" = true)
    (k_file_of : PySem.W.keepIn K (.ref f_file_of) = true)
    (h_require_charge : PySem.W.nsIn K mainGlobals "require_charge" = some (some (.ref f_require_charge)))
    (l_require_charge : K.lookup f_require_charge = some ⟨oc_require_charge, od_require_charge, .func (PySem.W.fnOf "require_charge" "require_charge" (defArgs s_require_charge) (defBody s_require_charge) (defScope s_require_charge) .none kV_require_charge dc_require_charge pm_require_charge an_require_charge cd_require_charge ct_require_charge), sl_require_charge⟩)
    (c_require_charge : PySem.W.codeIn K cd_require_charge "require_charge" = true)
    (k_require_charge : PySem.W.keepIn K (.ref f_require_charge) = true)
    (h_require_source : PySem.W.nsIn K mainGlobals "require_source" = some (some (.ref f_require_source)))
    (l_require_source : K.lookup f_require_source = some ⟨oc_require_source, od_require_source, .func (PySem.W.fnOf "require_source" "require_source" (defArgs s_require_source) (defBody s_require_source) (defScope s_require_source) .none kV_require_source dc_require_source pm_require_source an_require_source cd_require_source ct_require_source), sl_require_source⟩)
    (c_require_source : PySem.W.codeIn K cd_require_source "require_source" = true)
    (k_require_source : PySem.W.keepIn K (.ref f_require_source) = true)
    (h_place_for : PySem.W.nsIn K mainGlobals "place_for" = some (some (.ref f_place_for)))
    (l_place_for : K.lookup f_place_for = some ⟨oc_place_for, od_place_for, .func (PySem.W.fnOf "place_for" "place_for" (defArgs s_place_for) (defBody s_place_for) (defScope s_place_for) .none kV_place_for dc_place_for pm_place_for an_place_for cd_place_for ct_place_for), sl_place_for⟩)
    (c_place_for : PySem.W.codeIn K cd_place_for "place_for" = true)
    (k_place_for : PySem.W.keepIn K (.ref f_place_for) = true)
    (h_map_pages : PySem.W.nsIn K mainGlobals "map_pages" = some (some (.ref f_map_pages)))
    (l_map_pages : K.lookup f_map_pages = some ⟨oc_map_pages, od_map_pages, .func (PySem.W.fnOf "map_pages" "map_pages" (defArgs s_map_pages) (defBody s_map_pages) (defScope s_map_pages) .none (.ref kD_map_pages) dc_map_pages pm_map_pages an_map_pages cd_map_pages ct_map_pages), sl_map_pages⟩)
    (c_map_pages : PySem.W.codeIn K cd_map_pages "map_pages" = true)
    (k_map_pages : PySem.W.keepIn K (.ref f_map_pages) = true)
    (kd_map_pages_rights : PySem.W.nsIn K kD_map_pages "rights" = some (some (.str "rw" tk_rights)))
    (kd_map_pages_shared : PySem.W.nsIn K kD_map_pages "shared" = some (some (.bool false)))
    (kd_map_pages_source : PySem.W.nsIn K kD_map_pages "source" = some (some .none))
    (kd_map_pages_index : PySem.W.nsIn K kD_map_pages "index" = some (some (.int 0 tk_index)))
    (kd_map_pages_at : PySem.W.nsIn K kD_map_pages "at" = some (some .none))
    (h_new_pages : PySem.W.nsIn K mainGlobals "new_pages" = some (some (.ref f_new_pages)))
    (l_new_pages : K.lookup f_new_pages = some ⟨oc_new_pages, od_new_pages, .func (PySem.W.fnOf "new_pages" "new_pages" (defArgs s_new_pages) (defBody s_new_pages) (defScope s_new_pages) .none kV_new_pages dc_new_pages pm_new_pages an_new_pages cd_new_pages ct_new_pages), sl_new_pages⟩)
    (c_new_pages : PySem.W.codeIn K cd_new_pages "new_pages" = true)
    (k_new_pages : PySem.W.keepIn K (.ref f_new_pages) = true)
    (h_unmap : PySem.W.nsIn K mainGlobals "unmap" = some (some (.ref f_unmap)))
    (l_unmap : K.lookup f_unmap = some ⟨oc_unmap, od_unmap, .func (PySem.W.fnOf "unmap" "unmap" (defArgs s_unmap) (defBody s_unmap) (defScope s_unmap) .none kV_unmap dc_unmap pm_unmap an_unmap cd_unmap ct_unmap), sl_unmap⟩)
    (c_unmap : PySem.W.codeIn K cd_unmap "unmap" = true)
    (k_unmap : PySem.W.keepIn K (.ref f_unmap) = true)
    (h_protect : PySem.W.nsIn K mainGlobals "protect" = some (some (.ref f_protect)))
    (l_protect : K.lookup f_protect = some ⟨oc_protect, od_protect, .func (PySem.W.fnOf "protect" "protect" (defArgs s_protect) (defBody s_protect) (defScope s_protect) .none kV_protect dc_protect pm_protect an_protect cd_protect ct_protect), sl_protect⟩)
    (c_protect : PySem.W.codeIn K cd_protect "protect" = true)
    (k_protect : PySem.W.keepIn K (.ref f_protect) = true)
    (h_flags_with : PySem.W.nsIn K mainGlobals "flags_with" = some (some (.ref f_flags_with)))
    (l_flags_with : K.lookup f_flags_with = some ⟨oc_flags_with, od_flags_with, .func (PySem.W.fnOf "flags_with" "flags_with" (defArgs s_flags_with) (defBody s_flags_with) (defScope s_flags_with) .none kV_flags_with dc_flags_with pm_flags_with an_flags_with cd_flags_with ct_flags_with), sl_flags_with⟩)
    (c_flags_with : PySem.W.codeIn K cd_flags_with "flags_with" = true)
    (k_flags_with : PySem.W.keepIn K (.ref f_flags_with) = true)
    (h_flag : PySem.W.nsIn K mainGlobals "flag" = some (some (.ref f_flag)))
    (l_flag : K.lookup f_flag = some ⟨oc_flag, od_flag, .func (PySem.W.fnOf "flag" "flag" (defArgs s_flag) (defBody s_flag) (defScope s_flag) .none (.ref kD_flag) dc_flag pm_flag an_flag cd_flag ct_flag), sl_flag⟩)
    (c_flag : PySem.W.codeIn K cd_flag "flag" = true)
    (k_flag : PySem.W.keepIn K (.ref f_flag) = true)
    (kd_flag_merge : PySem.W.nsIn K kD_flag "merge" = some (some .none))
    (kd_flag_stay : PySem.W.nsIn K kD_flag "stay" = some (some .none))
    (kd_flag_wipe : PySem.W.nsIn K kD_flag "wipe" = some (some .none))
    (h_move : PySem.W.nsIn K mainGlobals "move" = some (some (.ref f_move)))
    (l_move : K.lookup f_move = some ⟨oc_move, od_move, .func (PySem.W.fnOf "move" "move" (defArgs s_move) (defBody s_move) (defScope s_move) .none kV_move dc_move pm_move an_move cd_move ct_move), sl_move⟩)
    (c_move : PySem.W.codeIn K cd_move "move" = true)
    (k_move : PySem.W.keepIn K (.ref f_move) = true)
    (h_continues : PySem.W.nsIn K mainGlobals "continues" = some (some (.ref f_continues)))
    (l_continues : K.lookup f_continues = some ⟨oc_continues, od_continues, .func (PySem.W.fnOf "continues" "continues" (defArgs s_continues) (defBody s_continues) (defScope s_continues) .none kV_continues dc_continues pm_continues an_continues cd_continues ct_continues), sl_continues⟩)
    (c_continues : PySem.W.codeIn K cd_continues "continues" = true)
    (k_continues : PySem.W.keepIn K (.ref f_continues) = true)
    (h_regions : PySem.W.nsIn K mainGlobals "regions" = some (some (.ref f_regions)))
    (l_regions : K.lookup f_regions = some ⟨oc_regions, od_regions, .func (PySem.W.fnOf "regions" "regions" (defArgs s_regions) (defBody s_regions) (defScope s_regions) .none kV_regions dc_regions pm_regions an_regions cd_regions ct_regions), sl_regions⟩)
    (c_regions : PySem.W.codeIn K cd_regions "regions" = true)
    (k_regions : PySem.W.keepIn K (.ref f_regions) = true)
    (h_free_runs : PySem.W.nsIn K mainGlobals "free_runs" = some (some (.ref f_free_runs)))
    (l_free_runs : K.lookup f_free_runs = some ⟨oc_free_runs, od_free_runs, .func (PySem.W.fnOf "free_runs" "free_runs" (defArgs s_free_runs) (defBody s_free_runs) (defScope s_free_runs) .none kV_free_runs dc_free_runs pm_free_runs an_free_runs cd_free_runs ct_free_runs), sl_free_runs⟩)
    (c_free_runs : PySem.W.codeIn K cd_free_runs "free_runs" = true)
    (k_free_runs : PySem.W.keepIn K (.ref f_free_runs) = true)
    (h_lowest_gap : PySem.W.nsIn K mainGlobals "lowest_gap" = some (some (.ref f_lowest_gap)))
    (l_lowest_gap : K.lookup f_lowest_gap = some ⟨oc_lowest_gap, od_lowest_gap, .func (PySem.W.fnOf "lowest_gap" "lowest_gap" (defArgs s_lowest_gap) (defBody s_lowest_gap) (defScope s_lowest_gap) .none kV_lowest_gap dc_lowest_gap pm_lowest_gap an_lowest_gap cd_lowest_gap ct_lowest_gap), sl_lowest_gap⟩)
    (c_lowest_gap : PySem.W.codeIn K cd_lowest_gap "lowest_gap" = true)
    (k_lowest_gap : PySem.W.keepIn K (.ref f_lowest_gap) = true)
    (h_new_process : PySem.W.nsIn K mainGlobals "new_process" = some (some (.ref f_new_process)))
    (l_new_process : K.lookup f_new_process = some ⟨oc_new_process, od_new_process, .func (PySem.W.fnOf "new_process" "new_process" (defArgs s_new_process) (defBody s_new_process) (defScope s_new_process) .none kV_new_process dc_new_process pm_new_process an_new_process cd_new_process ct_new_process), sl_new_process⟩)
    (c_new_process : PySem.W.codeIn K cd_new_process "new_process" = true)
    (k_new_process : PySem.W.keepIn K (.ref f_new_process) = true)
    (h_unmap_all : PySem.W.nsIn K mainGlobals "unmap_all" = some (some (.ref f_unmap_all)))
    (l_unmap_all : K.lookup f_unmap_all = some ⟨oc_unmap_all, od_unmap_all, .func (PySem.W.fnOf "unmap_all" "unmap_all" (defArgs s_unmap_all) (defBody s_unmap_all) (defScope s_unmap_all) .none kV_unmap_all dc_unmap_all pm_unmap_all an_unmap_all cd_unmap_all ct_unmap_all), sl_unmap_all⟩)
    (c_unmap_all : PySem.W.codeIn K cd_unmap_all "unmap_all" = true)
    (k_unmap_all : PySem.W.keepIn K (.ref f_unmap_all) = true)
    (h_end_process : PySem.W.nsIn K mainGlobals "end_process" = some (some (.ref f_end_process)))
    (l_end_process : K.lookup f_end_process = some ⟨oc_end_process, od_end_process, .func (PySem.W.fnOf "end_process" "end_process" (defArgs s_end_process) (defBody s_end_process) (defScope s_end_process) .none kV_end_process dc_end_process pm_end_process an_end_process cd_end_process ct_end_process), sl_end_process⟩)
    (c_end_process : PySem.W.codeIn K cd_end_process "end_process" = true)
    (k_end_process : PySem.W.keepIn K (.ref f_end_process) = true)
    (h_spawn : PySem.W.nsIn K mainGlobals "spawn" = some (some (.ref f_spawn)))
    (l_spawn : K.lookup f_spawn = some ⟨oc_spawn, od_spawn, .func (PySem.W.fnOf "spawn" "spawn" (defArgs s_spawn) (defBody s_spawn) (defScope s_spawn) .none kV_spawn dc_spawn pm_spawn an_spawn cd_spawn ct_spawn), sl_spawn⟩)
    (c_spawn : PySem.W.codeIn K cd_spawn "spawn" = true)
    (k_spawn : PySem.W.keepIn K (.ref f_spawn) = true)
    (h_child_page : PySem.W.nsIn K mainGlobals "child_page" = some (some (.ref f_child_page)))
    (l_child_page : K.lookup f_child_page = some ⟨oc_child_page, od_child_page, .func (PySem.W.fnOf "child_page" "child_page" (defArgs s_child_page) (defBody s_child_page) (defScope s_child_page) .none kV_child_page dc_child_page pm_child_page an_child_page cd_child_page ct_child_page), sl_child_page⟩)
    (c_child_page : PySem.W.codeIn K cd_child_page "child_page" = true)
    (k_child_page : PySem.W.keepIn K (.ref f_child_page) = true)
    (h_pages_of_child : PySem.W.nsIn K mainGlobals "pages_of_child" = some (some (.ref f_pages_of_child)))
    (l_pages_of_child : K.lookup f_pages_of_child = some ⟨oc_pages_of_child, od_pages_of_child, .func (PySem.W.fnOf "pages_of_child" "pages_of_child" (defArgs s_pages_of_child) (defBody s_pages_of_child) (defScope s_pages_of_child) .none kV_pages_of_child dc_pages_of_child pm_pages_of_child an_pages_of_child cd_pages_of_child ct_pages_of_child), sl_pages_of_child⟩)
    (c_pages_of_child : PySem.W.codeIn K cd_pages_of_child "pages_of_child" = true)
    (k_pages_of_child : PySem.W.keepIn K (.ref f_pages_of_child) = true)
    (h_fork : PySem.W.nsIn K mainGlobals "fork" = some (some (.ref f_fork)))
    (l_fork : K.lookup f_fork = some ⟨oc_fork, od_fork, .func (PySem.W.fnOf "fork" "fork" (defArgs s_fork) (defBody s_fork) (defScope s_fork) .none kV_fork dc_fork pm_fork an_fork cd_fork ct_fork), sl_fork⟩)
    (c_fork : PySem.W.codeIn K cd_fork "fork" = true)
    (k_fork : PySem.W.keepIn K (.ref f_fork) = true)
    (h_leave : PySem.W.nsIn K mainGlobals "leave" = some (some (.ref f_leave)))
    (l_leave : K.lookup f_leave = some ⟨oc_leave, od_leave, .func (PySem.W.fnOf "leave" "leave" (defArgs s_leave) (defBody s_leave) (defScope s_leave) .none kV_leave dc_leave pm_leave an_leave cd_leave ct_leave), sl_leave⟩)
    (c_leave : PySem.W.codeIn K cd_leave "leave" = true)
    (k_leave : PySem.W.keepIn K (.ref f_leave) = true)
    (h_fresh : PySem.W.nsIn K mainGlobals "fresh" = some (some (.ref f_fresh)))
    (l_fresh : K.lookup f_fresh = some ⟨oc_fresh, od_fresh, .func (PySem.W.fnOf "fresh" "fresh" (defArgs s_fresh) (defBody s_fresh) (defScope s_fresh) .none kV_fresh dc_fresh pm_fresh an_fresh cd_fresh ct_fresh), sl_fresh⟩)
    (c_fresh : PySem.W.codeIn K cd_fresh "fresh" = true)
    (k_fresh : PySem.W.keepIn K (.ref f_fresh) = true)
    (h_processes : PySem.W.nsIn K mainGlobals "processes" = some (some (.ref f_processes)))
    (l_processes : K.lookup f_processes = some ⟨oc_processes, od_processes, .func (PySem.W.fnOf "processes" "processes" (defArgs s_processes) (defBody s_processes) (defScope s_processes) .none kV_processes dc_processes pm_processes an_processes cd_processes ct_processes), sl_processes⟩)
    (c_processes : PySem.W.codeIn K cd_processes "processes" = true)
    (k_processes : PySem.W.keepIn K (.ref f_processes) = true)
    (h_is_name : PySem.W.nsIn K mainGlobals "is_name" = some (some (.ref f_is_name)))
    (l_is_name : K.lookup f_is_name = some ⟨oc_is_name, od_is_name, .func (PySem.W.fnOf "is_name" "is_name" (defArgs s_is_name) (defBody s_is_name) (defScope s_is_name) .none kV_is_name dc_is_name pm_is_name an_is_name cd_is_name ct_is_name), sl_is_name⟩)
    (c_is_name : PySem.W.codeIn K cd_is_name "is_name" = true)
    (k_is_name : PySem.W.keepIn K (.ref f_is_name) = true)
    (h_new_pages_of_file : PySem.W.nsIn K mainGlobals "new_pages_of_file" = some (some (.ref f_new_pages_of_file)))
    (l_new_pages_of_file : K.lookup f_new_pages_of_file = some ⟨oc_new_pages_of_file, od_new_pages_of_file, .func (PySem.W.fnOf "new_pages_of_file" "new_pages_of_file" (defArgs s_new_pages_of_file) (defBody s_new_pages_of_file) (defScope s_new_pages_of_file) .none kV_new_pages_of_file dc_new_pages_of_file pm_new_pages_of_file an_new_pages_of_file cd_new_pages_of_file ct_new_pages_of_file), sl_new_pages_of_file⟩)
    (c_new_pages_of_file : PySem.W.codeIn K cd_new_pages_of_file "new_pages_of_file" = true)
    (k_new_pages_of_file : PySem.W.keepIn K (.ref f_new_pages_of_file) = true)
    (h_create : PySem.W.nsIn K mainGlobals "create" = some (some (.ref f_create)))
    (l_create : K.lookup f_create = some ⟨oc_create, od_create, .func (PySem.W.fnOf "create" "create" (defArgs s_create) (defBody s_create) (defScope s_create) .none kV_create dc_create pm_create an_create cd_create ct_create), sl_create⟩)
    (c_create : PySem.W.codeIn K cd_create "create" = true)
    (k_create : PySem.W.keepIn K (.ref f_create) = true)
    (h__law_well : PySem.W.nsIn K mainGlobals "_law_well" = some (some (.ref f__law_well)))
    (l__law_well : K.lookup f__law_well = some ⟨oc__law_well, od__law_well, .func (PySem.W.fnOf "_law_well" "_law_well" (defArgs s__law_well) (defBody s__law_well) (defScope s__law_well) .none kV__law_well dc__law_well pm__law_well an__law_well cd__law_well ct__law_well), sl__law_well⟩)
    (c__law_well : PySem.W.codeIn K cd__law_well "_law_well" = true)
    (k__law_well : PySem.W.keepIn K (.ref f__law_well) = true)
    (h__law_draw : PySem.W.nsIn K mainGlobals "_law_draw" = some (some (.ref f__law_draw)))
    (l__law_draw : K.lookup f__law_draw = some ⟨oc__law_draw, od__law_draw, .func (PySem.W.fnOf "_law_draw" "_law_draw" (defArgs s__law_draw) (defBody s__law_draw) (defScope s__law_draw) .none kV__law_draw dc__law_draw pm__law_draw an__law_draw cd__law_draw ct__law_draw), sl__law_draw⟩)
    (c__law_draw : PySem.W.codeIn K cd__law_draw "_law_draw" = true)
    (k__law_draw : PySem.W.keepIn K (.ref f__law_draw) = true)
    (h__law_one : PySem.W.nsIn K mainGlobals "_law_one" = some (some (.ref f__law_one)))
    (l__law_one : K.lookup f__law_one = some ⟨oc__law_one, od__law_one, .func (PySem.W.fnOf "_law_one" "_law_one" (defArgs s__law_one) (defBody s__law_one) (defScope s__law_one) .none kV__law_one dc__law_one pm__law_one an__law_one cd__law_one ct__law_one), sl__law_one⟩)
    (c__law_one : PySem.W.codeIn K cd__law_one "_law_one" = true)
    (k__law_one : PySem.W.keepIn K (.ref f__law_one) = true)
    (h__law_fits : PySem.W.nsIn K mainGlobals "_law_fits" = some (some (.ref f__law_fits)))
    (l__law_fits : K.lookup f__law_fits = some ⟨oc__law_fits, od__law_fits, .func (PySem.W.fnOf "_law_fits" "_law_fits" (defArgs s__law_fits) (defBody s__law_fits) (defScope s__law_fits) .none kV__law_fits dc__law_fits pm__law_fits an__law_fits cd__law_fits ct__law_fits), sl__law_fits⟩)
    (c__law_fits : PySem.W.codeIn K cd__law_fits "_law_fits" = true)
    (k__law_fits : PySem.W.keepIn K (.ref f__law_fits) = true)
    (h__law_regions : PySem.W.nsIn K mainGlobals "_law_regions" = some (some (.ref f__law_regions)))
    (l__law_regions : K.lookup f__law_regions = some ⟨oc__law_regions, od__law_regions, .func (PySem.W.fnOf "_law_regions" "_law_regions" (defArgs s__law_regions) (defBody s__law_regions) (defScope s__law_regions) .none kV__law_regions dc__law_regions pm__law_regions an__law_regions cd__law_regions ct__law_regions), sl__law_regions⟩)
    (c__law_regions : PySem.W.codeIn K cd__law_regions "_law_regions" = true)
    (k__law_regions : PySem.W.keepIn K (.ref f__law_regions) = true)
    (h__law_alive : PySem.W.nsIn K mainGlobals "_law_alive" = some (some (.ref f__law_alive)))
    (l__law_alive : K.lookup f__law_alive = some ⟨oc__law_alive, od__law_alive, .func (PySem.W.fnOf "_law_alive" "_law_alive" (defArgs s__law_alive) (defBody s__law_alive) (defScope s__law_alive) .none kV__law_alive dc__law_alive pm__law_alive an__law_alive cd__law_alive ct__law_alive), sl__law_alive⟩)
    (c__law_alive : PySem.W.codeIn K cd__law_alive "_law_alive" = true)
    (k__law_alive : PySem.W.keepIn K (.ref f__law_alive) = true)
    (h__law_mapped : PySem.W.nsIn K mainGlobals "_law_mapped" = some (some (.ref f__law_mapped)))
    (l__law_mapped : K.lookup f__law_mapped = some ⟨oc__law_mapped, od__law_mapped, .func (PySem.W.fnOf "_law_mapped" "_law_mapped" (defArgs s__law_mapped) (defBody s__law_mapped) (defScope s__law_mapped) .none kV__law_mapped dc__law_mapped pm__law_mapped an__law_mapped cd__law_mapped ct__law_mapped), sl__law_mapped⟩)
    (c__law_mapped : PySem.W.codeIn K cd__law_mapped "_law_mapped" = true)
    (k__law_mapped : PySem.W.keepIn K (.ref f__law_mapped) = true)
    (h__law_range : PySem.W.nsIn K mainGlobals "_law_range" = some (some (.ref f__law_range)))
    (l__law_range : K.lookup f__law_range = some ⟨oc__law_range, od__law_range, .func (PySem.W.fnOf "_law_range" "_law_range" (defArgs s__law_range) (defBody s__law_range) (defScope s__law_range) .none kV__law_range dc__law_range pm__law_range an__law_range cd__law_range ct__law_range), sl__law_range⟩)
    (c__law_range : PySem.W.codeIn K cd__law_range "_law_range" = true)
    (k__law_range : PySem.W.keepIn K (.ref f__law_range) = true)
    (h__law_changed : PySem.W.nsIn K mainGlobals "_law_changed" = some (some (.ref f__law_changed)))
    (l__law_changed : K.lookup f__law_changed = some ⟨oc__law_changed, od__law_changed, .func (PySem.W.fnOf "_law_changed" "_law_changed" (defArgs s__law_changed) (defBody s__law_changed) (defScope s__law_changed) .none kV__law_changed dc__law_changed pm__law_changed an__law_changed cd__law_changed ct__law_changed), sl__law_changed⟩)
    (c__law_changed : PySem.W.codeIn K cd__law_changed "_law_changed" = true)
    (k__law_changed : PySem.W.keepIn K (.ref f__law_changed) = true)
    (h__law_ended : PySem.W.nsIn K mainGlobals "_law_ended" = some (some (.ref f__law_ended)))
    (l__law_ended : K.lookup f__law_ended = some ⟨oc__law_ended, od__law_ended, .func (PySem.W.fnOf "_law_ended" "_law_ended" (defArgs s__law_ended) (defBody s__law_ended) (defScope s__law_ended) .none kV__law_ended dc__law_ended pm__law_ended an__law_ended cd__law_ended ct__law_ended), sl__law_ended⟩)
    (c__law_ended : PySem.W.codeIn K cd__law_ended "_law_ended" = true)
    (k__law_ended : PySem.W.keepIn K (.ref f__law_ended) = true)
    (h__law_step : PySem.W.nsIn K mainGlobals "_law_step" = some (some (.ref f__law_step)))
    (l__law_step : K.lookup f__law_step = some ⟨oc__law_step, od__law_step, .func (PySem.W.fnOf "_law_step" "_law_step" (defArgs s__law_step) (defBody s__law_step) (defScope s__law_step) .none kV__law_step dc__law_step pm__law_step an__law_step cd__law_step ct__law_step), sl__law_step⟩)
    (c__law_step : PySem.W.codeIn K cd__law_step "_law_step" = true)
    (k__law_step : PySem.W.keepIn K (.ref f__law_step) = true)
    (h_law : PySem.W.nsIn K mainGlobals "law" = some (some (.ref f_law)))
    (l_law : K.lookup f_law = some ⟨oc_law, od_law, .func (PySem.W.fnOf "law" "law" (defArgs s_law) (defBody s_law) (defScope s_law) .none kV_law dc_law pm_law an_law cd_law ct_law), sl_law⟩)
    (c_law : PySem.W.codeIn K cd_law "law" = true)
    (k_law : PySem.W.keepIn K (.ref f_law) = true)
    (h_NoProcess : PySem.W.nsIn K mainGlobals "NoProcess" = some (some (.ref C_NoProcess)))
    (h_NoPages : PySem.W.nsIn K mainGlobals "NoPages" = some (some (.ref C_NoPages)))
    (h_NotMapped : PySem.W.nsIn K mainGlobals "NotMapped" = some (some (.ref C_NotMapped)))
    (h_NoFile : PySem.W.nsIn K mainGlobals "NoFile" = some (some (.ref C_NoFile)))
    (h_Taken : PySem.W.nsIn K mainGlobals "Taken" = some (some (.ref C_Taken)))
    (h_NoLock : PySem.W.nsIn K mainGlobals "NoLock" = some (some (.ref C_NoLock)))
    (h_System : PySem.W.nsIn K mainGlobals "System" = some (some (.ref C_System)))
    (h_Page : PySem.W.nsIn K mainGlobals "Page" = some (some (.ref C_Page)))
    (h_Item : PySem.W.nsIn K mainGlobals "Item" = some (some (.ref C_Item)))
    (h_History : PySem.W.nsIn K mainGlobals "History" = some (some (.ref C_History)))
    (h_NoProcess_init : PySem.W.findIn K (.ref C_NoProcess) "__init__" = some (some (.ref f_NoProcess_init)))
    (l_NoProcess_init : K.lookup f_NoProcess_init = some ⟨oc_NoProcess_init, od_NoProcess_init, .func (PySem.W.fnOf "__init__" "NoProcess.__init__" (defArgs s_NoProcess_init) (defBody s_NoProcess_init) (defScope s_NoProcess_init) .none kV_NoProcess_init dc_NoProcess_init pm_NoProcess_init an_NoProcess_init cd_NoProcess_init ct_NoProcess_init), sl_NoProcess_init⟩)
    (c_NoProcess_init : PySem.W.codeIn K cd_NoProcess_init "NoProcess.__init__" = true)
    (k_NoProcess_init : PySem.W.keepIn K (.ref f_NoProcess_init) = true)
    (h_NoPages_init : PySem.W.findIn K (.ref C_NoPages) "__init__" = some (some (.ref f_NoPages_init)))
    (l_NoPages_init : K.lookup f_NoPages_init = some ⟨oc_NoPages_init, od_NoPages_init, .func (PySem.W.fnOf "__init__" "NoPages.__init__" (defArgs s_NoPages_init) (defBody s_NoPages_init) (defScope s_NoPages_init) .none kV_NoPages_init dc_NoPages_init pm_NoPages_init an_NoPages_init cd_NoPages_init ct_NoPages_init), sl_NoPages_init⟩)
    (c_NoPages_init : PySem.W.codeIn K cd_NoPages_init "NoPages.__init__" = true)
    (k_NoPages_init : PySem.W.keepIn K (.ref f_NoPages_init) = true)
    (h_NotMapped_init : PySem.W.findIn K (.ref C_NotMapped) "__init__" = some (some (.ref f_NotMapped_init)))
    (l_NotMapped_init : K.lookup f_NotMapped_init = some ⟨oc_NotMapped_init, od_NotMapped_init, .func (PySem.W.fnOf "__init__" "NotMapped.__init__" (defArgs s_NotMapped_init) (defBody s_NotMapped_init) (defScope s_NotMapped_init) .none kV_NotMapped_init dc_NotMapped_init pm_NotMapped_init an_NotMapped_init cd_NotMapped_init ct_NotMapped_init), sl_NotMapped_init⟩)
    (c_NotMapped_init : PySem.W.codeIn K cd_NotMapped_init "NotMapped.__init__" = true)
    (k_NotMapped_init : PySem.W.keepIn K (.ref f_NotMapped_init) = true)
    (h_NoFile_init : PySem.W.findIn K (.ref C_NoFile) "__init__" = some (some (.ref f_NoFile_init)))
    (l_NoFile_init : K.lookup f_NoFile_init = some ⟨oc_NoFile_init, od_NoFile_init, .func (PySem.W.fnOf "__init__" "NoFile.__init__" (defArgs s_NoFile_init) (defBody s_NoFile_init) (defScope s_NoFile_init) .none kV_NoFile_init dc_NoFile_init pm_NoFile_init an_NoFile_init cd_NoFile_init ct_NoFile_init), sl_NoFile_init⟩)
    (c_NoFile_init : PySem.W.codeIn K cd_NoFile_init "NoFile.__init__" = true)
    (k_NoFile_init : PySem.W.keepIn K (.ref f_NoFile_init) = true)
    (h_Taken_init : PySem.W.findIn K (.ref C_Taken) "__init__" = some (some (.ref f_Taken_init)))
    (l_Taken_init : K.lookup f_Taken_init = some ⟨oc_Taken_init, od_Taken_init, .func (PySem.W.fnOf "__init__" "Taken.__init__" (defArgs s_Taken_init) (defBody s_Taken_init) (defScope s_Taken_init) .none kV_Taken_init dc_Taken_init pm_Taken_init an_Taken_init cd_Taken_init ct_Taken_init), sl_Taken_init⟩)
    (c_Taken_init : PySem.W.codeIn K cd_Taken_init "Taken.__init__" = true)
    (k_Taken_init : PySem.W.keepIn K (.ref f_Taken_init) = true)
    (h_NoLock_init : PySem.W.findIn K (.ref C_NoLock) "__init__" = some (some (.ref f_NoLock_init)))
    (l_NoLock_init : K.lookup f_NoLock_init = some ⟨oc_NoLock_init, od_NoLock_init, .func (PySem.W.fnOf "__init__" "NoLock.__init__" (defArgs s_NoLock_init) (defBody s_NoLock_init) (defScope s_NoLock_init) .none kV_NoLock_init dc_NoLock_init pm_NoLock_init an_NoLock_init cd_NoLock_init ct_NoLock_init), sl_NoLock_init⟩)
    (c_NoLock_init : PySem.W.codeIn K cd_NoLock_init "NoLock.__init__" = true)
    (k_NoLock_init : PySem.W.keepIn K (.ref f_NoLock_init) = true)
    (h_Item_init : PySem.W.findIn K (.ref C_Item) "__init__" = some (some (.ref f_Item_init)))
    (l_Item_init : K.lookup f_Item_init = some ⟨oc_Item_init, od_Item_init, .func (PySem.W.fnOf "__init__" "Item.__init__" (defArgs s_Item_init) (defBody s_Item_init) (defScope s_Item_init) .none kV_Item_init dc_Item_init pm_Item_init an_Item_init cd_Item_init ct_Item_init), sl_Item_init⟩)
    (c_Item_init : PySem.W.codeIn K cd_Item_init "Item.__init__" = true)
    (k_Item_init : PySem.W.keepIn K (.ref f_Item_init) = true)
    (h_Page_init : PySem.W.findIn K (.ref C_Page) "__init__" = some (some (.ref f_Page_init)))
    (l_Page_init : K.lookup f_Page_init = some ⟨oc_Page_init, od_Page_init, .func (PySem.W.fnOf "__init__" "Page.__init__" (defArgs s_Page_init) (defBody s_Page_init) (defScope s_Page_init) .none kV_Page_init dc_Page_init pm_Page_init an_Page_init cd_Page_init ct_Page_init), sl_Page_init⟩)
    (c_Page_init : PySem.W.codeIn K cd_Page_init "Page.__init__" = true)
    (k_Page_init : PySem.W.keepIn K (.ref f_Page_init) = true)
    (h_History_init : PySem.W.findIn K (.ref C_History) "__init__" = some (some (.ref f_History_init)))
    (l_History_init : K.lookup f_History_init = some ⟨oc_History_init, od_History_init, .func (PySem.W.fnOf "__init__" "History.__init__" (defArgs s_History_init) (defBody s_History_init) (defScope s_History_init) .none kV_History_init dc_History_init pm_History_init an_History_init cd_History_init ct_History_init), sl_History_init⟩)
    (c_History_init : PySem.W.codeIn K cd_History_init "History.__init__" = true)
    (k_History_init : PySem.W.keepIn K (.ref f_History_init) = true)
    (h_System_init : PySem.W.findIn K (.ref C_System) "__init__" = some (some (.ref f_System_init)))
    (l_System_init : K.lookup f_System_init = some ⟨oc_System_init, od_System_init, .func (PySem.W.fnOf "__init__" "System.__init__" (defArgs s_System_init) (defBody s_System_init) (defScope s_System_init) .none (.ref kD_System_init) dc_System_init pm_System_init an_System_init cd_System_init ct_System_init), sl_System_init⟩)
    (c_System_init : PySem.W.codeIn K cd_System_init "System.__init__" = true)
    (k_System_init : PySem.W.keepIn K (.ref f_System_init) = true)
    (kd_System_init_frames : PySem.W.nsIn K kD_System_init "frames" = some (some .none))
    (kd_System_init_slots : PySem.W.nsIn K kD_System_init "slots" = some (some .none))
    (kd_System_init_strict : PySem.W.nsIn K kD_System_init "strict" = some (some (.bool false)))
    (xL_NoProcess : K.lookup C_NoProcess = some (excClassObj nm_NoProcess q_NoProcess C_NoProcess N_NoProcess bs_NoProcess bm_NoProcess true sn_NoProcess sub_NoProcess ab_NoProcess col_NoProcess dd_NoProcess m0_NoProcess m1_NoProcess m2_NoProcess m3_NoProcess m5_NoProcess "ValueError.__new__"))
    (xR_NoProcess : PySem.HandSPX.refsVE bm_NoProcess = true)
    (xS_NoProcess : PySem.W.findIn K (.ref C_NoProcess) "__setattr__" = some (some (.builtin "object.__setattr__")))
    (xE_NoProcess : PySem.W.subIn K (.ref C_NoProcess) (.type "BaseException") = some true)
    (xT_NoProcess : PySem.W.typeIn K (.ref C_NoProcess) = some (.type "type"))
    (xK_NoProcess : PySem.W.keepIn K (.ref C_NoProcess) = true)
    (xG_NoProcess : PySem.W.findIn K (.ref C_NoProcess) "__getattribute__" = some (some (.builtin "BaseException.__getattribute__")))
    (xH_NoProcess : PySem.W.findIn K (.ref C_NoProcess) "__getattr__" = some none)
    (xD_NoProcess : PySem.W.hasDictIn K C_NoProcess = true)
    (xC_NoProcess : PySem.W.isClsIn K C_NoProcess = true)
    (xN_NoProcess : PySem.W.findIn K (.ref C_NoProcess) "process" = some none)
    (xi_NoProcess : PySem.W.typeIn K (.ref f_NoProcess_init) = some (.type "function"))
    (xL_NoPages : K.lookup C_NoPages = some (excClassObj nm_NoPages q_NoPages C_NoPages N_NoPages bs_NoPages bm_NoPages true sn_NoPages sub_NoPages ab_NoPages col_NoPages dd_NoPages m0_NoPages m1_NoPages m2_NoPages m3_NoPages m5_NoPages "ValueError.__new__"))
    (xR_NoPages : PySem.HandSPX.refsVE bm_NoPages = true)
    (xS_NoPages : PySem.W.findIn K (.ref C_NoPages) "__setattr__" = some (some (.builtin "object.__setattr__")))
    (xE_NoPages : PySem.W.subIn K (.ref C_NoPages) (.type "BaseException") = some true)
    (xT_NoPages : PySem.W.typeIn K (.ref C_NoPages) = some (.type "type"))
    (xK_NoPages : PySem.W.keepIn K (.ref C_NoPages) = true)
    (xG_NoPages : PySem.W.findIn K (.ref C_NoPages) "__getattribute__" = some (some (.builtin "BaseException.__getattribute__")))
    (xH_NoPages : PySem.W.findIn K (.ref C_NoPages) "__getattr__" = some none)
    (xD_NoPages : PySem.W.hasDictIn K C_NoPages = true)
    (xC_NoPages : PySem.W.isClsIn K C_NoPages = true)
    (xN_NoPages : PySem.W.findIn K (.ref C_NoPages) "part" = some none)
    (xi_NoPages : PySem.W.typeIn K (.ref f_NoPages_init) = some (.type "function"))
    (xL_NotMapped : K.lookup C_NotMapped = some (excClassObj nm_NotMapped q_NotMapped C_NotMapped N_NotMapped bs_NotMapped bm_NotMapped true sn_NotMapped sub_NotMapped ab_NotMapped col_NotMapped dd_NotMapped m0_NotMapped m1_NotMapped m2_NotMapped m3_NotMapped m5_NotMapped "ValueError.__new__"))
    (xR_NotMapped : PySem.HandSPX.refsVE bm_NotMapped = true)
    (xS_NotMapped : PySem.W.findIn K (.ref C_NotMapped) "__setattr__" = some (some (.builtin "object.__setattr__")))
    (xE_NotMapped : PySem.W.subIn K (.ref C_NotMapped) (.type "BaseException") = some true)
    (xT_NotMapped : PySem.W.typeIn K (.ref C_NotMapped) = some (.type "type"))
    (xK_NotMapped : PySem.W.keepIn K (.ref C_NotMapped) = true)
    (xG_NotMapped : PySem.W.findIn K (.ref C_NotMapped) "__getattribute__" = some (some (.builtin "BaseException.__getattribute__")))
    (xH_NotMapped : PySem.W.findIn K (.ref C_NotMapped) "__getattr__" = some none)
    (xD_NotMapped : PySem.W.hasDictIn K C_NotMapped = true)
    (xC_NotMapped : PySem.W.isClsIn K C_NotMapped = true)
    (xN_NotMapped : PySem.W.findIn K (.ref C_NotMapped) "page" = some none)
    (xi_NotMapped : PySem.W.typeIn K (.ref f_NotMapped_init) = some (.type "function"))
    (xL_NoFile : K.lookup C_NoFile = some (excClassObj nm_NoFile q_NoFile C_NoFile N_NoFile bs_NoFile bm_NoFile true sn_NoFile sub_NoFile ab_NoFile col_NoFile dd_NoFile m0_NoFile m1_NoFile m2_NoFile m3_NoFile m5_NoFile "ValueError.__new__"))
    (xR_NoFile : PySem.HandSPX.refsVE bm_NoFile = true)
    (xS_NoFile : PySem.W.findIn K (.ref C_NoFile) "__setattr__" = some (some (.builtin "object.__setattr__")))
    (xE_NoFile : PySem.W.subIn K (.ref C_NoFile) (.type "BaseException") = some true)
    (xT_NoFile : PySem.W.typeIn K (.ref C_NoFile) = some (.type "type"))
    (xK_NoFile : PySem.W.keepIn K (.ref C_NoFile) = true)
    (xG_NoFile : PySem.W.findIn K (.ref C_NoFile) "__getattribute__" = some (some (.builtin "BaseException.__getattribute__")))
    (xH_NoFile : PySem.W.findIn K (.ref C_NoFile) "__getattr__" = some none)
    (xD_NoFile : PySem.W.hasDictIn K C_NoFile = true)
    (xC_NoFile : PySem.W.isClsIn K C_NoFile = true)
    (xN_NoFile : PySem.W.findIn K (.ref C_NoFile) "name" = some none)
    (xi_NoFile : PySem.W.typeIn K (.ref f_NoFile_init) = some (.type "function"))
    (xL_Taken : K.lookup C_Taken = some (excClassObj nm_Taken q_Taken C_Taken N_Taken bs_Taken bm_Taken true sn_Taken sub_Taken ab_Taken col_Taken dd_Taken m0_Taken m1_Taken m2_Taken m3_Taken m5_Taken "ValueError.__new__"))
    (xR_Taken : PySem.HandSPX.refsVE bm_Taken = true)
    (xS_Taken : PySem.W.findIn K (.ref C_Taken) "__setattr__" = some (some (.builtin "object.__setattr__")))
    (xE_Taken : PySem.W.subIn K (.ref C_Taken) (.type "BaseException") = some true)
    (xT_Taken : PySem.W.typeIn K (.ref C_Taken) = some (.type "type"))
    (xK_Taken : PySem.W.keepIn K (.ref C_Taken) = true)
    (xG_Taken : PySem.W.findIn K (.ref C_Taken) "__getattribute__" = some (some (.builtin "BaseException.__getattribute__")))
    (xH_Taken : PySem.W.findIn K (.ref C_Taken) "__getattr__" = some none)
    (xD_Taken : PySem.W.hasDictIn K C_Taken = true)
    (xC_Taken : PySem.W.isClsIn K C_Taken = true)
    (xN_Taken : PySem.W.findIn K (.ref C_Taken) "name" = some none)
    (xi_Taken : PySem.W.typeIn K (.ref f_Taken_init) = some (.type "function"))
    (xL_NoLock : K.lookup C_NoLock = some (excClassObj nm_NoLock q_NoLock C_NoLock N_NoLock bs_NoLock bm_NoLock true sn_NoLock sub_NoLock ab_NoLock col_NoLock dd_NoLock m0_NoLock m1_NoLock m2_NoLock m3_NoLock m5_NoLock "ValueError.__new__"))
    (xR_NoLock : PySem.HandSPX.refsVE bm_NoLock = true)
    (xS_NoLock : PySem.W.findIn K (.ref C_NoLock) "__setattr__" = some (some (.builtin "object.__setattr__")))
    (xE_NoLock : PySem.W.subIn K (.ref C_NoLock) (.type "BaseException") = some true)
    (xT_NoLock : PySem.W.typeIn K (.ref C_NoLock) = some (.type "type"))
    (xK_NoLock : PySem.W.keepIn K (.ref C_NoLock) = true)
    (xG_NoLock : PySem.W.findIn K (.ref C_NoLock) "__getattribute__" = some (some (.builtin "BaseException.__getattribute__")))
    (xH_NoLock : PySem.W.findIn K (.ref C_NoLock) "__getattr__" = some none)
    (xD_NoLock : PySem.W.hasDictIn K C_NoLock = true)
    (xC_NoLock : PySem.W.isClsIn K C_NoLock = true)
    (xN_NoLock : PySem.W.findIn K (.ref C_NoLock) "page" = some none)
    (xi_NoLock : PySem.W.typeIn K (.ref f_NoLock_init) = some (.type "function"))
    (pg_System : PySem.W.plainGet K C_System Str.empty = true)
    (hd_System : PySem.W.hasDictIn K C_System = true)
    (po_System : PySem.W.plainOver K C_System = true)
    (sa_System : PySem.W.findIn K (.ref C_System) "__setattr__" = some (some (.builtin "object.__setattr__")))
    (mk_System : PySem.W.makesIn K C_System = true)
    (kc_System : PySem.W.keepIn K (.ref C_System) = true)
    (ii_System : PySem.W.isFn K (.ref f_System_init) = true)
    (na_System_frames : PySem.W.findIn K (.ref C_System) "frames" = some none)
    (na_System_slots : PySem.W.findIn K (.ref C_System) "slots" = some none)
    (na_System_strict : PySem.W.findIn K (.ref C_System) "strict" = some none)
    (na_System_steps_made : PySem.W.findIn K (.ref C_System) "steps_made" = some none)
    (na_System_processes_made : PySem.W.findIn K (.ref C_System) "processes_made" = some none)
    (na_System_objects_made : PySem.W.findIn K (.ref C_System) "objects_made" = some none)
    (na_System_tables : PySem.W.findIn K (.ref C_System) "tables" = some none)
    (na_System_objects : PySem.W.findIn K (.ref C_System) "objects" = some none)
    (na_System_object_pages : PySem.W.findIn K (.ref C_System) "object_pages" = some none)
    (na_System_files : PySem.W.findIn K (.ref C_System) "files" = some none)
    (na_System_classes : PySem.W.findIn K (.ref C_System) "classes" = some none)
    (na_System_locked_pages : PySem.W.findIn K (.ref C_System) "locked_pages" = some none)
    (na_System_memory : PySem.W.findIn K (.ref C_System) "memory" = some none)
    (na_System_swapped : PySem.W.findIn K (.ref C_System) "swapped" = some none)
    (na_System_faults : PySem.W.findIn K (.ref C_System) "faults" = some none)
    (na_System_swap_outs : PySem.W.findIn K (.ref C_System) "swap_outs" = some none)
    (na_System_write_backs : PySem.W.findIn K (.ref C_System) "write_backs" = some none)
    (na_System_history : PySem.W.findIn K (.ref C_System) "history" = some none)
    (pg_Page : PySem.W.plainGet K C_Page Str.empty = true)
    (hd_Page : PySem.W.hasDictIn K C_Page = true)
    (po_Page : PySem.W.plainOver K C_Page = true)
    (sa_Page : PySem.W.findIn K (.ref C_Page) "__setattr__" = some (some (.builtin "object.__setattr__")))
    (mk_Page : PySem.W.makesIn K C_Page = true)
    (kc_Page : PySem.W.keepIn K (.ref C_Page) = true)
    (ii_Page : PySem.W.isFn K (.ref f_Page_init) = true)
    (na_Page_rights : PySem.W.findIn K (.ref C_Page) "rights" = some none)
    (na_Page_shared : PySem.W.findIn K (.ref C_Page) "shared" = some none)
    (na_Page_source : PySem.W.findIn K (.ref C_Page) "source" = some none)
    (na_Page_index : PySem.W.findIn K (.ref C_Page) "index" = some none)
    (na_Page_flags : PySem.W.findIn K (.ref C_Page) "flags" = some none)
    (na_Page_held : PySem.W.findIn K (.ref C_Page) "held" = some none)
    (na_Page_stamp : PySem.W.findIn K (.ref C_Page) "stamp" = some none)
    (pg_Item : PySem.W.plainGet K C_Item Str.empty = true)
    (hd_Item : PySem.W.hasDictIn K C_Item = true)
    (po_Item : PySem.W.plainOver K C_Item = true)
    (sa_Item : PySem.W.findIn K (.ref C_Item) "__setattr__" = some (some (.builtin "object.__setattr__")))
    (mk_Item : PySem.W.makesIn K C_Item = true)
    (kc_Item : PySem.W.keepIn K (.ref C_Item) = true)
    (ii_Item : PySem.W.isFn K (.ref f_Item_init) = true)
    (na_Item_source : PySem.W.findIn K (.ref C_Item) "source" = some none)
    (na_Item_index : PySem.W.findIn K (.ref C_Item) "index" = some none)
    (na_Item_content : PySem.W.findIn K (.ref C_Item) "content" = some none)
    (na_Item_origin : PySem.W.findIn K (.ref C_Item) "origin" = some none)
    (na_Item_position : PySem.W.findIn K (.ref C_Item) "position" = some none)
    (na_Item_holders : PySem.W.findIn K (.ref C_Item) "holders" = some none)
    (na_Item_locks : PySem.W.findIn K (.ref C_Item) "locks" = some none)
    (na_Item_dirty : PySem.W.findIn K (.ref C_Item) "dirty" = some none)
    (na_Item_on_disk : PySem.W.findIn K (.ref C_Item) "on_disk" = some none)
    (na_Item_dirty_from : PySem.W.findIn K (.ref C_Item) "dirty_from" = some none)
    (na_Item_saved : PySem.W.findIn K (.ref C_Item) "saved" = some none)
    (na_Item_saved_with : PySem.W.findIn K (.ref C_Item) "saved_with" = some none)
    (pg_History : PySem.W.plainGet K C_History Str.empty = true)
    (hd_History : PySem.W.hasDictIn K C_History = true)
    (po_History : PySem.W.plainOver K C_History = true)
    (sa_History : PySem.W.findIn K (.ref C_History) "__setattr__" = some (some (.builtin "object.__setattr__")))
    (mk_History : PySem.W.makesIn K C_History = true)
    (kc_History : PySem.W.keepIn K (.ref C_History) = true)
    (ii_History : PySem.W.isFn K (.ref f_History_init) = true)
    (na_History_row : PySem.W.findIn K (.ref C_History) "row" = some none)
    (na_History_holes : PySem.W.findIn K (.ref C_History) "holes" = some none)
    (na_History_locked : PySem.W.findIn K (.ref C_History) "locked" = some none)
    (na_History_classes : PySem.W.findIn K (.ref C_History) "classes" = some none)
    (na_History_touches : PySem.W.findIn K (.ref C_History) "touches" = some none)
    (na_History_distances : PySem.W.findIn K (.ref C_History) "distances" = some none)
    (na_History_swap_outs : PySem.W.findIn K (.ref C_History) "swap_outs" = some none)
    (na_History_write_backs : PySem.W.findIn K (.ref C_History) "write_backs" = some none)
    (na_History_most_slots : PySem.W.findIn K (.ref C_History) "most_slots" = some none)
    (na_History_saves : PySem.W.findIn K (.ref C_History) "saves" = some none)
    (na_History_lock_changes : PySem.W.findIn K (.ref C_History) "lock_changes" = some none)
    (na_History_most_locked : PySem.W.findIn K (.ref C_History) "most_locked" = some none)
    (na_History_crashed : PySem.W.findIn K (.ref C_History) "crashed" = some none)
    (na_History_merged : PySem.W.findIn K (.ref C_History) "merged" = some none)
    (gc_PAGES : PySem.W.nsIn K mainGlobals "PAGES" = some (some (.int 512 t_PAGES)))
    (gc_FILE_PAGES : PySem.W.nsIn K mainGlobals "FILE_PAGES" = some (some (.int 64 t_FILE_PAGES)))
    (b_int : PySem.W.nsIn K mainGlobals "int" = some none)
    (b_len : PySem.W.nsIn K mainGlobals "len" = some none)
    (b_isinstance : PySem.W.nsIn K mainGlobals "isinstance" = some none)
    (b_bool : PySem.W.nsIn K mainGlobals "bool" = some none)
    (b_str : PySem.W.nsIn K mainGlobals "str" = some none)
    (b_list : PySem.W.nsIn K mainGlobals "list" = some none)
    (b_range : PySem.W.nsIn K mainGlobals "range" = some none)
    (b_enumerate : PySem.W.nsIn K mainGlobals "enumerate" = some none)
    (b_sorted : PySem.W.nsIn K mainGlobals "sorted" = some none)
    (b_tuple : PySem.W.nsIn K mainGlobals "tuple" = some none)
    (b_dict : PySem.W.nsIn K mainGlobals "dict" = some none)
    (b_all : PySem.W.nsIn K mainGlobals "all" = some none)
    (b_min : PySem.W.nsIn K mainGlobals "min" = some none)
    (b_abs : PySem.W.nsIn K mainGlobals "abs" = some none)
    (gR : PySem.W.nsIn K mainGlobals "RIGHTS" = some (some (.ref o_RIGHTS)))
    (rR : rightsIn K o_RIGHTS = true)
    (gF : PySem.W.nsIn K mainGlobals "FLAGS" = some (some (.ref o_FLAGS)))
    (rF : flagsIn K o_FLAGS = true)
    (gZ : PySem.W.nsIn K mainGlobals "ZEROS" = some (some (.ref o_ZEROS)))
    (rZ : zerosIn K o_ZEROS = true) :
    Txt K mg { a_with_rights := f_with_rights, fd_with_rights := PySem.W.fnOf "with_rights" "with_rights" (defArgs s_with_rights) (defBody s_with_rights) (defScope s_with_rights) .none kV_with_rights dc_with_rights pm_with_rights an_with_rights cd_with_rights ct_with_rights, a_with_flags := f_with_flags, fd_with_flags := PySem.W.fnOf "with_flags" "with_flags" (defArgs s_with_flags) (defBody s_with_flags) (defScope s_with_flags) .none kV_with_flags dc_with_flags pm_with_flags an_with_flags cd_with_flags ct_with_flags, a_with_lock := f_with_lock, fd_with_lock := PySem.W.fnOf "with_lock" "with_lock" (defArgs s_with_lock) (defBody s_with_lock) (defScope s_with_lock) .none kV_with_lock dc_with_lock pm_with_lock an_with_lock cd_with_lock ct_with_lock, a_with_held := f_with_held, fd_with_held := PySem.W.fnOf "with_held" "with_held" (defArgs s_with_held) (defBody s_with_held) (defScope s_with_held) .none kV_with_held dc_with_held pm_with_held an_with_held cd_with_held ct_with_held, a_with_stamp := f_with_stamp, fd_with_stamp := PySem.W.fnOf "with_stamp" "with_stamp" (defArgs s_with_stamp) (defBody s_with_stamp) (defScope s_with_stamp) .none kV_with_stamp dc_with_stamp pm_with_stamp an_with_stamp cd_with_stamp ct_with_stamp, a_attributes := f_attributes, fd_attributes := PySem.W.fnOf "attributes" "attributes" (defArgs s_attributes) (defBody s_attributes) (defScope s_attributes) .none kV_attributes dc_attributes pm_attributes an_attributes cd_attributes ct_attributes, a_has_object := f_has_object, fd_has_object := PySem.W.fnOf "has_object" "has_object" (defArgs s_has_object) (defBody s_has_object) (defScope s_has_object) .none kV_has_object dc_has_object pm_has_object an_has_object cd_has_object ct_has_object, a_arrange_locked := f_arrange_locked, fd_arrange_locked := PySem.W.fnOf "arrange_locked" "arrange_locked" (defArgs s_arrange_locked) (defBody s_arrange_locked) (defScope s_arrange_locked) .none kV_arrange_locked dc_arrange_locked pm_arrange_locked an_arrange_locked cd_arrange_locked ct_arrange_locked, a_add_locked := f_add_locked, fd_add_locked := PySem.W.fnOf "add_locked" "add_locked" (defArgs s_add_locked) (defBody s_add_locked) (defScope s_add_locked) .none kV_add_locked dc_add_locked pm_add_locked an_add_locked cd_add_locked ct_add_locked, a_this_step := f_this_step, fd_this_step := PySem.W.fnOf "this_step" "this_step" (defArgs s_this_step) (defBody s_this_step) (defScope s_this_step) .none kV_this_step dc_this_step pm_this_step an_this_step cd_this_step ct_this_step, a_count_page := f_count_page, fd_count_page := PySem.W.fnOf "count_page" "count_page" (defArgs s_count_page) (defBody s_count_page) (defScope s_count_page) .none kV_count_page dc_count_page pm_count_page an_count_page cd_count_page ct_count_page, a_discount_page := f_discount_page, fd_discount_page := PySem.W.fnOf "discount_page" "discount_page" (defArgs s_discount_page) (defBody s_discount_page) (defScope s_discount_page) .none kV_discount_page dc_discount_page pm_discount_page an_discount_page cd_discount_page ct_discount_page, a_discount_user := f_discount_user, fd_discount_user := PySem.W.fnOf "discount_user" "discount_user" (defArgs s_discount_user) (defBody s_discount_user) (defScope s_discount_user) .none kV_discount_user dc_discount_user pm_discount_user an_discount_user cd_discount_user ct_discount_user, a_replace_pages := f_replace_pages, fd_replace_pages := PySem.W.fnOf "replace_pages" "replace_pages" (defArgs s_replace_pages) (defBody s_replace_pages) (defScope s_replace_pages) .none kV_replace_pages dc_replace_pages pm_replace_pages an_replace_pages cd_replace_pages ct_replace_pages, a_end_step := f_end_step, fd_end_step := PySem.W.fnOf "end_step" "end_step" (defArgs s_end_step) (defBody s_end_step) (defScope s_end_step) .none kV_end_step dc_end_step pm_end_step an_end_step cd_end_step ct_end_step, a_is_integer := f_is_integer, fd_is_integer := PySem.W.fnOf "is_integer" "is_integer" (defArgs s_is_integer) (defBody s_is_integer) (defScope s_is_integer) .none kV_is_integer dc_is_integer pm_is_integer an_is_integer cd_is_integer ct_is_integer, a_is_word := f_is_word, fd_is_word := PySem.W.fnOf "is_word" "is_word" (defArgs s_is_word) (defBody s_is_word) (defScope s_is_word) .none kV_is_word dc_is_word pm_is_word an_is_word cd_is_word ct_is_word, a_require := f_require, fd_require := PySem.W.fnOf "require" "require" (defArgs s_require) (defBody s_require) (defScope s_require) .none kV_require dc_require pm_require an_require cd_require ct_require, a_table_of := f_table_of, fd_table_of := PySem.W.fnOf "table_of" "table_of" (defArgs s_table_of) (defBody s_table_of) (defScope s_table_of) .none kV_table_of dc_table_of pm_table_of an_table_of cd_table_of ct_table_of, a_numbers_of := f_numbers_of, fd_numbers_of := PySem.W.fnOf "numbers_of" "numbers_of" (defArgs s_numbers_of) (defBody s_numbers_of) (defScope s_numbers_of) .none kV_numbers_of dc_numbers_of pm_numbers_of an_numbers_of cd_numbers_of ct_numbers_of, a_require_mapped := f_require_mapped, fd_require_mapped := PySem.W.fnOf "require_mapped" "require_mapped" (defArgs s_require_mapped) (defBody s_require_mapped) (defScope s_require_mapped) .none kV_require_mapped dc_require_mapped pm_require_mapped an_require_mapped cd_require_mapped ct_require_mapped, a_require_unlocked := f_require_unlocked, fd_require_unlocked := PySem.W.fnOf "require_unlocked" "require_unlocked" (defArgs s_require_unlocked) (defBody s_require_unlocked) (defScope s_require_unlocked) .none kV_require_unlocked dc_require_unlocked pm_require_unlocked an_require_unlocked cd_require_unlocked ct_require_unlocked, a_file_of := f_file_of, fd_file_of := PySem.W.fnOf "file_of" "file_of" (defArgs s_file_of) (defBody s_file_of) (defScope s_file_of) .none kV_file_of dc_file_of pm_file_of an_file_of cd_file_of ct_file_of, a_require_charge := f_require_charge, fd_require_charge := PySem.W.fnOf "require_charge" "require_charge" (defArgs s_require_charge) (defBody s_require_charge) (defScope s_require_charge) .none kV_require_charge dc_require_charge pm_require_charge an_require_charge cd_require_charge ct_require_charge, a_require_source := f_require_source, fd_require_source := PySem.W.fnOf "require_source" "require_source" (defArgs s_require_source) (defBody s_require_source) (defScope s_require_source) .none kV_require_source dc_require_source pm_require_source an_require_source cd_require_source ct_require_source, a_place_for := f_place_for, fd_place_for := PySem.W.fnOf "place_for" "place_for" (defArgs s_place_for) (defBody s_place_for) (defScope s_place_for) .none kV_place_for dc_place_for pm_place_for an_place_for cd_place_for ct_place_for, a_map_pages := f_map_pages, fd_map_pages := PySem.W.fnOf "map_pages" "map_pages" (defArgs s_map_pages) (defBody s_map_pages) (defScope s_map_pages) .none (.ref kD_map_pages) dc_map_pages pm_map_pages an_map_pages cd_map_pages ct_map_pages, a_new_pages := f_new_pages, fd_new_pages := PySem.W.fnOf "new_pages" "new_pages" (defArgs s_new_pages) (defBody s_new_pages) (defScope s_new_pages) .none kV_new_pages dc_new_pages pm_new_pages an_new_pages cd_new_pages ct_new_pages, a_unmap := f_unmap, fd_unmap := PySem.W.fnOf "unmap" "unmap" (defArgs s_unmap) (defBody s_unmap) (defScope s_unmap) .none kV_unmap dc_unmap pm_unmap an_unmap cd_unmap ct_unmap, a_protect := f_protect, fd_protect := PySem.W.fnOf "protect" "protect" (defArgs s_protect) (defBody s_protect) (defScope s_protect) .none kV_protect dc_protect pm_protect an_protect cd_protect ct_protect, a_flags_with := f_flags_with, fd_flags_with := PySem.W.fnOf "flags_with" "flags_with" (defArgs s_flags_with) (defBody s_flags_with) (defScope s_flags_with) .none kV_flags_with dc_flags_with pm_flags_with an_flags_with cd_flags_with ct_flags_with, a_flag := f_flag, fd_flag := PySem.W.fnOf "flag" "flag" (defArgs s_flag) (defBody s_flag) (defScope s_flag) .none (.ref kD_flag) dc_flag pm_flag an_flag cd_flag ct_flag, a_move := f_move, fd_move := PySem.W.fnOf "move" "move" (defArgs s_move) (defBody s_move) (defScope s_move) .none kV_move dc_move pm_move an_move cd_move ct_move, a_continues := f_continues, fd_continues := PySem.W.fnOf "continues" "continues" (defArgs s_continues) (defBody s_continues) (defScope s_continues) .none kV_continues dc_continues pm_continues an_continues cd_continues ct_continues, a_regions := f_regions, fd_regions := PySem.W.fnOf "regions" "regions" (defArgs s_regions) (defBody s_regions) (defScope s_regions) .none kV_regions dc_regions pm_regions an_regions cd_regions ct_regions, a_free_runs := f_free_runs, fd_free_runs := PySem.W.fnOf "free_runs" "free_runs" (defArgs s_free_runs) (defBody s_free_runs) (defScope s_free_runs) .none kV_free_runs dc_free_runs pm_free_runs an_free_runs cd_free_runs ct_free_runs, a_lowest_gap := f_lowest_gap, fd_lowest_gap := PySem.W.fnOf "lowest_gap" "lowest_gap" (defArgs s_lowest_gap) (defBody s_lowest_gap) (defScope s_lowest_gap) .none kV_lowest_gap dc_lowest_gap pm_lowest_gap an_lowest_gap cd_lowest_gap ct_lowest_gap, a_new_process := f_new_process, fd_new_process := PySem.W.fnOf "new_process" "new_process" (defArgs s_new_process) (defBody s_new_process) (defScope s_new_process) .none kV_new_process dc_new_process pm_new_process an_new_process cd_new_process ct_new_process, a_unmap_all := f_unmap_all, fd_unmap_all := PySem.W.fnOf "unmap_all" "unmap_all" (defArgs s_unmap_all) (defBody s_unmap_all) (defScope s_unmap_all) .none kV_unmap_all dc_unmap_all pm_unmap_all an_unmap_all cd_unmap_all ct_unmap_all, a_end_process := f_end_process, fd_end_process := PySem.W.fnOf "end_process" "end_process" (defArgs s_end_process) (defBody s_end_process) (defScope s_end_process) .none kV_end_process dc_end_process pm_end_process an_end_process cd_end_process ct_end_process, a_spawn := f_spawn, fd_spawn := PySem.W.fnOf "spawn" "spawn" (defArgs s_spawn) (defBody s_spawn) (defScope s_spawn) .none kV_spawn dc_spawn pm_spawn an_spawn cd_spawn ct_spawn, a_child_page := f_child_page, fd_child_page := PySem.W.fnOf "child_page" "child_page" (defArgs s_child_page) (defBody s_child_page) (defScope s_child_page) .none kV_child_page dc_child_page pm_child_page an_child_page cd_child_page ct_child_page, a_pages_of_child := f_pages_of_child, fd_pages_of_child := PySem.W.fnOf "pages_of_child" "pages_of_child" (defArgs s_pages_of_child) (defBody s_pages_of_child) (defScope s_pages_of_child) .none kV_pages_of_child dc_pages_of_child pm_pages_of_child an_pages_of_child cd_pages_of_child ct_pages_of_child, a_fork := f_fork, fd_fork := PySem.W.fnOf "fork" "fork" (defArgs s_fork) (defBody s_fork) (defScope s_fork) .none kV_fork dc_fork pm_fork an_fork cd_fork ct_fork, a_leave := f_leave, fd_leave := PySem.W.fnOf "leave" "leave" (defArgs s_leave) (defBody s_leave) (defScope s_leave) .none kV_leave dc_leave pm_leave an_leave cd_leave ct_leave, a_fresh := f_fresh, fd_fresh := PySem.W.fnOf "fresh" "fresh" (defArgs s_fresh) (defBody s_fresh) (defScope s_fresh) .none kV_fresh dc_fresh pm_fresh an_fresh cd_fresh ct_fresh, a_processes := f_processes, fd_processes := PySem.W.fnOf "processes" "processes" (defArgs s_processes) (defBody s_processes) (defScope s_processes) .none kV_processes dc_processes pm_processes an_processes cd_processes ct_processes, a_is_name := f_is_name, fd_is_name := PySem.W.fnOf "is_name" "is_name" (defArgs s_is_name) (defBody s_is_name) (defScope s_is_name) .none kV_is_name dc_is_name pm_is_name an_is_name cd_is_name ct_is_name, a_new_pages_of_file := f_new_pages_of_file, fd_new_pages_of_file := PySem.W.fnOf "new_pages_of_file" "new_pages_of_file" (defArgs s_new_pages_of_file) (defBody s_new_pages_of_file) (defScope s_new_pages_of_file) .none kV_new_pages_of_file dc_new_pages_of_file pm_new_pages_of_file an_new_pages_of_file cd_new_pages_of_file ct_new_pages_of_file, a_create := f_create, fd_create := PySem.W.fnOf "create" "create" (defArgs s_create) (defBody s_create) (defScope s_create) .none kV_create dc_create pm_create an_create cd_create ct_create, a__law_well := f__law_well, fd__law_well := PySem.W.fnOf "_law_well" "_law_well" (defArgs s__law_well) (defBody s__law_well) (defScope s__law_well) .none kV__law_well dc__law_well pm__law_well an__law_well cd__law_well ct__law_well, a__law_draw := f__law_draw, fd__law_draw := PySem.W.fnOf "_law_draw" "_law_draw" (defArgs s__law_draw) (defBody s__law_draw) (defScope s__law_draw) .none kV__law_draw dc__law_draw pm__law_draw an__law_draw cd__law_draw ct__law_draw, a__law_one := f__law_one, fd__law_one := PySem.W.fnOf "_law_one" "_law_one" (defArgs s__law_one) (defBody s__law_one) (defScope s__law_one) .none kV__law_one dc__law_one pm__law_one an__law_one cd__law_one ct__law_one, a__law_fits := f__law_fits, fd__law_fits := PySem.W.fnOf "_law_fits" "_law_fits" (defArgs s__law_fits) (defBody s__law_fits) (defScope s__law_fits) .none kV__law_fits dc__law_fits pm__law_fits an__law_fits cd__law_fits ct__law_fits, a__law_regions := f__law_regions, fd__law_regions := PySem.W.fnOf "_law_regions" "_law_regions" (defArgs s__law_regions) (defBody s__law_regions) (defScope s__law_regions) .none kV__law_regions dc__law_regions pm__law_regions an__law_regions cd__law_regions ct__law_regions, a__law_alive := f__law_alive, fd__law_alive := PySem.W.fnOf "_law_alive" "_law_alive" (defArgs s__law_alive) (defBody s__law_alive) (defScope s__law_alive) .none kV__law_alive dc__law_alive pm__law_alive an__law_alive cd__law_alive ct__law_alive, a__law_mapped := f__law_mapped, fd__law_mapped := PySem.W.fnOf "_law_mapped" "_law_mapped" (defArgs s__law_mapped) (defBody s__law_mapped) (defScope s__law_mapped) .none kV__law_mapped dc__law_mapped pm__law_mapped an__law_mapped cd__law_mapped ct__law_mapped, a__law_range := f__law_range, fd__law_range := PySem.W.fnOf "_law_range" "_law_range" (defArgs s__law_range) (defBody s__law_range) (defScope s__law_range) .none kV__law_range dc__law_range pm__law_range an__law_range cd__law_range ct__law_range, a__law_changed := f__law_changed, fd__law_changed := PySem.W.fnOf "_law_changed" "_law_changed" (defArgs s__law_changed) (defBody s__law_changed) (defScope s__law_changed) .none kV__law_changed dc__law_changed pm__law_changed an__law_changed cd__law_changed ct__law_changed, a__law_ended := f__law_ended, fd__law_ended := PySem.W.fnOf "_law_ended" "_law_ended" (defArgs s__law_ended) (defBody s__law_ended) (defScope s__law_ended) .none kV__law_ended dc__law_ended pm__law_ended an__law_ended cd__law_ended ct__law_ended, a__law_step := f__law_step, fd__law_step := PySem.W.fnOf "_law_step" "_law_step" (defArgs s__law_step) (defBody s__law_step) (defScope s__law_step) .none kV__law_step dc__law_step pm__law_step an__law_step cd__law_step ct__law_step, a_law := f_law, fd_law := PySem.W.fnOf "law" "law" (defArgs s_law) (defBody s_law) (defScope s_law) .none kV_law dc_law pm_law an_law cd_law ct_law, c_NoProcess := C_NoProcess, c_NoPages := C_NoPages, c_NotMapped := C_NotMapped, c_NoFile := C_NoFile, c_Taken := C_Taken, c_NoLock := C_NoLock, c_System := C_System, c_Page := C_Page, c_Item := C_Item, c_History := C_History, a_NoProcess_init := f_NoProcess_init, fd_NoProcess_init := PySem.W.fnOf "__init__" "NoProcess.__init__" (defArgs s_NoProcess_init) (defBody s_NoProcess_init) (defScope s_NoProcess_init) .none kV_NoProcess_init dc_NoProcess_init pm_NoProcess_init an_NoProcess_init cd_NoProcess_init ct_NoProcess_init, a_NoPages_init := f_NoPages_init, fd_NoPages_init := PySem.W.fnOf "__init__" "NoPages.__init__" (defArgs s_NoPages_init) (defBody s_NoPages_init) (defScope s_NoPages_init) .none kV_NoPages_init dc_NoPages_init pm_NoPages_init an_NoPages_init cd_NoPages_init ct_NoPages_init, a_NotMapped_init := f_NotMapped_init, fd_NotMapped_init := PySem.W.fnOf "__init__" "NotMapped.__init__" (defArgs s_NotMapped_init) (defBody s_NotMapped_init) (defScope s_NotMapped_init) .none kV_NotMapped_init dc_NotMapped_init pm_NotMapped_init an_NotMapped_init cd_NotMapped_init ct_NotMapped_init, a_NoFile_init := f_NoFile_init, fd_NoFile_init := PySem.W.fnOf "__init__" "NoFile.__init__" (defArgs s_NoFile_init) (defBody s_NoFile_init) (defScope s_NoFile_init) .none kV_NoFile_init dc_NoFile_init pm_NoFile_init an_NoFile_init cd_NoFile_init ct_NoFile_init, a_Taken_init := f_Taken_init, fd_Taken_init := PySem.W.fnOf "__init__" "Taken.__init__" (defArgs s_Taken_init) (defBody s_Taken_init) (defScope s_Taken_init) .none kV_Taken_init dc_Taken_init pm_Taken_init an_Taken_init cd_Taken_init ct_Taken_init, a_NoLock_init := f_NoLock_init, fd_NoLock_init := PySem.W.fnOf "__init__" "NoLock.__init__" (defArgs s_NoLock_init) (defBody s_NoLock_init) (defScope s_NoLock_init) .none kV_NoLock_init dc_NoLock_init pm_NoLock_init an_NoLock_init cd_NoLock_init ct_NoLock_init, a_Item_init := f_Item_init, fd_Item_init := PySem.W.fnOf "__init__" "Item.__init__" (defArgs s_Item_init) (defBody s_Item_init) (defScope s_Item_init) .none kV_Item_init dc_Item_init pm_Item_init an_Item_init cd_Item_init ct_Item_init, a_Page_init := f_Page_init, fd_Page_init := PySem.W.fnOf "__init__" "Page.__init__" (defArgs s_Page_init) (defBody s_Page_init) (defScope s_Page_init) .none kV_Page_init dc_Page_init pm_Page_init an_Page_init cd_Page_init ct_Page_init, a_History_init := f_History_init, fd_History_init := PySem.W.fnOf "__init__" "History.__init__" (defArgs s_History_init) (defBody s_History_init) (defScope s_History_init) .none kV_History_init dc_History_init pm_History_init an_History_init cd_History_init ct_History_init, a_System_init := f_System_init, fd_System_init := PySem.W.fnOf "__init__" "System.__init__" (defArgs s_System_init) (defBody s_System_init) (defScope s_System_init) .none (.ref kD_System_init) dc_System_init pm_System_init an_System_init cd_System_init ct_System_init, t_PAGES := t_PAGES, t_FILE_PAGES := t_FILE_PAGES, o_RIGHTS := o_RIGHTS, o_FLAGS := o_FLAGS, o_ZEROS := o_ZEROS } := {
    f_with_rights := fun_mk (st := s_with_rights) l_with_rights c_with_rights k_with_rights
    bi_with_rights := (fun_mk (st := s_with_rights) l_with_rights c_with_rights k_with_rights).binds (ps := p_with_rights) fun _ _ _ _ _ _ us hl => match us, hl with | [_, _], _ => rfl
    g_with_rights := PySem.W.mg_of X G h_with_rights
    k_with_rights := k_with_rights
    f_with_flags := fun_mk (st := s_with_flags) l_with_flags c_with_flags k_with_flags
    bi_with_flags := (fun_mk (st := s_with_flags) l_with_flags c_with_flags k_with_flags).binds (ps := p_with_flags) fun _ _ _ _ _ _ us hl => match us, hl with | [_, _], _ => rfl
    g_with_flags := PySem.W.mg_of X G h_with_flags
    k_with_flags := k_with_flags
    f_with_lock := fun_mk (st := s_with_lock) l_with_lock c_with_lock k_with_lock
    bi_with_lock := (fun_mk (st := s_with_lock) l_with_lock c_with_lock k_with_lock).binds (ps := p_with_lock) fun _ _ _ _ _ _ us hl => match us, hl with | [_, _], _ => rfl
    g_with_lock := PySem.W.mg_of X G h_with_lock
    k_with_lock := k_with_lock
    f_with_held := fun_mk (st := s_with_held) l_with_held c_with_held k_with_held
    bi_with_held := (fun_mk (st := s_with_held) l_with_held c_with_held k_with_held).binds (ps := p_with_held) fun _ _ _ _ _ _ us hl => match us, hl with | [_, _], _ => rfl
    g_with_held := PySem.W.mg_of X G h_with_held
    k_with_held := k_with_held
    f_with_stamp := fun_mk (st := s_with_stamp) l_with_stamp c_with_stamp k_with_stamp
    bi_with_stamp := (fun_mk (st := s_with_stamp) l_with_stamp c_with_stamp k_with_stamp).binds (ps := p_with_stamp) fun _ _ _ _ _ _ us hl => match us, hl with | [_, _], _ => rfl
    g_with_stamp := PySem.W.mg_of X G h_with_stamp
    k_with_stamp := k_with_stamp
    f_attributes := fun_mk (st := s_attributes) l_attributes c_attributes k_attributes
    bi_attributes := (fun_mk (st := s_attributes) l_attributes c_attributes k_attributes).binds (ps := p_attributes) fun _ _ _ _ _ _ us hl => match us, hl with | [_], _ => rfl
    g_attributes := PySem.W.mg_of X G h_attributes
    k_attributes := k_attributes
    f_has_object := fun_mk (st := s_has_object) l_has_object c_has_object k_has_object
    bi_has_object := (fun_mk (st := s_has_object) l_has_object c_has_object k_has_object).binds (ps := p_has_object) fun _ _ _ _ _ _ us hl => match us, hl with | [_], _ => rfl
    g_has_object := PySem.W.mg_of X G h_has_object
    k_has_object := k_has_object
    f_arrange_locked := fun_mk (st := s_arrange_locked) l_arrange_locked c_arrange_locked k_arrange_locked
    bi_arrange_locked := (fun_mk (st := s_arrange_locked) l_arrange_locked c_arrange_locked k_arrange_locked).binds (ps := p_arrange_locked) fun _ _ _ _ _ _ us hl => match us, hl with | [_], _ => rfl
    g_arrange_locked := PySem.W.mg_of X G h_arrange_locked
    k_arrange_locked := k_arrange_locked
    f_add_locked := fun_mk (st := s_add_locked) l_add_locked c_add_locked k_add_locked
    bi_add_locked := (fun_mk (st := s_add_locked) l_add_locked c_add_locked k_add_locked).binds (ps := p_add_locked) fun _ _ _ _ _ _ us hl => match us, hl with | [_, _], _ => rfl
    g_add_locked := PySem.W.mg_of X G h_add_locked
    k_add_locked := k_add_locked
    f_this_step := fun_mk (st := s_this_step) l_this_step c_this_step k_this_step
    bi_this_step := (fun_mk (st := s_this_step) l_this_step c_this_step k_this_step).binds (ps := p_this_step) fun _ _ _ _ _ _ us hl => match us, hl with | [_], _ => rfl
    g_this_step := PySem.W.mg_of X G h_this_step
    k_this_step := k_this_step
    f_count_page := fun_mk (st := s_count_page) l_count_page c_count_page k_count_page
    bi_count_page := (fun_mk (st := s_count_page) l_count_page c_count_page k_count_page).binds (ps := p_count_page) fun _ _ _ _ _ _ us hl => match us, hl with | [_, _], _ => rfl
    g_count_page := PySem.W.mg_of X G h_count_page
    k_count_page := k_count_page
    f_discount_page := fun_mk (st := s_discount_page) l_discount_page c_discount_page k_discount_page
    bi_discount_page := (fun_mk (st := s_discount_page) l_discount_page c_discount_page k_discount_page).binds (ps := p_discount_page) fun _ _ _ _ _ _ us hl => match us, hl with | [_, _], _ => rfl
    g_discount_page := PySem.W.mg_of X G h_discount_page
    k_discount_page := k_discount_page
    f_discount_user := fun_mk (st := s_discount_user) l_discount_user c_discount_user k_discount_user
    bi_discount_user := (fun_mk (st := s_discount_user) l_discount_user c_discount_user k_discount_user).binds (ps := p_discount_user) fun _ _ _ _ _ _ us hl => match us, hl with | [_, _, _], _ => rfl
    g_discount_user := PySem.W.mg_of X G h_discount_user
    k_discount_user := k_discount_user
    f_replace_pages := fun_mk (st := s_replace_pages) l_replace_pages c_replace_pages k_replace_pages
    bi_replace_pages := (fun_mk (st := s_replace_pages) l_replace_pages c_replace_pages k_replace_pages).binds (ps := p_replace_pages) fun _ _ _ _ _ _ us hl => match us, hl with | [_, _, _], _ => rfl
    g_replace_pages := PySem.W.mg_of X G h_replace_pages
    k_replace_pages := k_replace_pages
    f_end_step := fun_mk (st := s_end_step) l_end_step c_end_step k_end_step
    bi_end_step := (fun_mk (st := s_end_step) l_end_step c_end_step k_end_step).binds (ps := p_end_step) fun _ _ _ _ _ _ us hl => match us, hl with | [_], _ => rfl
    g_end_step := PySem.W.mg_of X G h_end_step
    k_end_step := k_end_step
    f_is_integer := fun_mk (st := s_is_integer) l_is_integer c_is_integer k_is_integer
    bi_is_integer := (fun_mk (st := s_is_integer) l_is_integer c_is_integer k_is_integer).binds (ps := p_is_integer) fun _ _ _ _ _ _ us hl => match us, hl with | [_, _, _], _ => rfl
    g_is_integer := PySem.W.mg_of X G h_is_integer
    k_is_integer := k_is_integer
    f_is_word := fun_mk (st := s_is_word) l_is_word c_is_word k_is_word
    bi_is_word := (fun_mk (st := s_is_word) l_is_word c_is_word k_is_word).binds (ps := p_is_word) fun _ _ _ _ _ _ us hl => match us, hl with | [_, _], _ => rfl
    g_is_word := PySem.W.mg_of X G h_is_word
    k_is_word := k_is_word
    f_require := fun_mk (st := s_require) l_require c_require k_require
    bi_require := (fun_mk (st := s_require) l_require c_require k_require).binds (ps := p_require) fun _ _ _ _ _ _ us hl => match us, hl with | [_, _], _ => rfl
    g_require := PySem.W.mg_of X G h_require
    k_require := k_require
    f_table_of := fun_mk (st := s_table_of) l_table_of c_table_of k_table_of
    bi_table_of := (fun_mk (st := s_table_of) l_table_of c_table_of k_table_of).binds (ps := p_table_of) fun _ _ _ _ _ _ us hl => match us, hl with | [_, _], _ => rfl
    g_table_of := PySem.W.mg_of X G h_table_of
    k_table_of := k_table_of
    f_numbers_of := fun_mk (st := s_numbers_of) l_numbers_of c_numbers_of k_numbers_of
    bi_numbers_of := (fun_mk (st := s_numbers_of) l_numbers_of c_numbers_of k_numbers_of).binds (ps := p_numbers_of) fun _ _ _ _ _ _ us hl => match us, hl with | [_, _], _ => rfl
    g_numbers_of := PySem.W.mg_of X G h_numbers_of
    k_numbers_of := k_numbers_of
    f_require_mapped := fun_mk (st := s_require_mapped) l_require_mapped c_require_mapped k_require_mapped
    bi_require_mapped := (fun_mk (st := s_require_mapped) l_require_mapped c_require_mapped k_require_mapped).binds (ps := p_require_mapped) fun _ _ _ _ _ _ us hl => match us, hl with | [_, _], _ => rfl
    g_require_mapped := PySem.W.mg_of X G h_require_mapped
    k_require_mapped := k_require_mapped
    f_require_unlocked := fun_mk (st := s_require_unlocked) l_require_unlocked c_require_unlocked k_require_unlocked
    bi_require_unlocked := (fun_mk (st := s_require_unlocked) l_require_unlocked c_require_unlocked k_require_unlocked).binds (ps := p_require_unlocked) fun _ _ _ _ _ _ us hl => match us, hl with | [_, _], _ => rfl
    g_require_unlocked := PySem.W.mg_of X G h_require_unlocked
    k_require_unlocked := k_require_unlocked
    f_file_of := fun_mk (st := s_file_of) l_file_of c_file_of k_file_of
    bi_file_of := (fun_mk (st := s_file_of) l_file_of c_file_of k_file_of).binds (ps := p_file_of) fun _ _ _ _ _ _ us hl => match us, hl with | [_, _], _ => rfl
    g_file_of := PySem.W.mg_of X G h_file_of
    k_file_of := k_file_of
    f_require_charge := fun_mk (st := s_require_charge) l_require_charge c_require_charge k_require_charge
    bi_require_charge := (fun_mk (st := s_require_charge) l_require_charge c_require_charge k_require_charge).binds (ps := p_require_charge) fun _ _ _ _ _ _ us hl => match us, hl with | [_, _, _], _ => rfl
    g_require_charge := PySem.W.mg_of X G h_require_charge
    k_require_charge := k_require_charge
    f_require_source := fun_mk (st := s_require_source) l_require_source c_require_source k_require_source
    bi_require_source := (fun_mk (st := s_require_source) l_require_source c_require_source k_require_source).binds (ps := p_require_source) fun _ _ _ _ _ _ us hl => match us, hl with | [_, _, _], _ => rfl
    g_require_source := PySem.W.mg_of X G h_require_source
    k_require_source := k_require_source
    f_place_for := fun_mk (st := s_place_for) l_place_for c_place_for k_place_for
    bi_place_for := (fun_mk (st := s_place_for) l_place_for c_place_for k_place_for).binds (ps := p_place_for) fun _ _ _ _ _ _ us hl => match us, hl with | [_, _, _], _ => rfl
    g_place_for := PySem.W.mg_of X G h_place_for
    k_place_for := k_place_for
    f_map_pages := ⟨⟨_, _, _, _, _, _, _, _, _, _, rfl, l_map_pages, c_map_pages, .inl ⟨rfl, rfl⟩, .inr ⟨kD_map_pages, rfl, by
      intro q hq
      simp only [kw_map_pages, List.mem_cons, List.not_mem_nil, or_false] at hq
      rcases hq with h | h | h | h | h
      · subst h; exact ⟨_, kd_map_pages_rights, ⟨_, rfl⟩⟩
      · subst h; exact ⟨_, kd_map_pages_shared, rfl⟩
      · subst h; exact ⟨_, kd_map_pages_source, rfl⟩
      · subst h; exact ⟨_, kd_map_pages_index, ⟨_, rfl⟩⟩
      · subst h; exact ⟨_, kd_map_pages_at, rfl⟩⟩⟩, k_map_pages⟩
    g_map_pages := PySem.W.mg_of X G h_map_pages
    k_map_pages := k_map_pages
    f_new_pages := fun_mk (st := s_new_pages) l_new_pages c_new_pages k_new_pages
    bi_new_pages := (fun_mk (st := s_new_pages) l_new_pages c_new_pages k_new_pages).binds (ps := p_new_pages) fun _ _ _ _ _ _ us hl => match us, hl with | [_, _, _], _ => rfl
    g_new_pages := PySem.W.mg_of X G h_new_pages
    k_new_pages := k_new_pages
    f_unmap := fun_mk (st := s_unmap) l_unmap c_unmap k_unmap
    bi_unmap := (fun_mk (st := s_unmap) l_unmap c_unmap k_unmap).binds (ps := p_unmap) fun _ _ _ _ _ _ us hl => match us, hl with | [_, _, _, _], _ => rfl
    g_unmap := PySem.W.mg_of X G h_unmap
    k_unmap := k_unmap
    f_protect := fun_mk (st := s_protect) l_protect c_protect k_protect
    bi_protect := (fun_mk (st := s_protect) l_protect c_protect k_protect).binds (ps := p_protect) fun _ _ _ _ _ _ us hl => match us, hl with | [_, _, _, _, _], _ => rfl
    g_protect := PySem.W.mg_of X G h_protect
    k_protect := k_protect
    f_flags_with := fun_mk (st := s_flags_with) l_flags_with c_flags_with k_flags_with
    bi_flags_with := (fun_mk (st := s_flags_with) l_flags_with c_flags_with k_flags_with).binds (ps := p_flags_with) fun _ _ _ _ _ _ us hl => match us, hl with | [_, _], _ => rfl
    g_flags_with := PySem.W.mg_of X G h_flags_with
    k_flags_with := k_flags_with
    f_flag := ⟨⟨_, _, _, _, _, _, _, _, _, _, rfl, l_flag, c_flag, .inl ⟨rfl, rfl⟩, .inr ⟨kD_flag, rfl, by
      intro q hq
      simp only [kw_flag, List.mem_cons, List.not_mem_nil, or_false] at hq
      rcases hq with h | h | h
      · subst h; exact ⟨_, kd_flag_merge, rfl⟩
      · subst h; exact ⟨_, kd_flag_stay, rfl⟩
      · subst h; exact ⟨_, kd_flag_wipe, rfl⟩⟩⟩, k_flag⟩
    g_flag := PySem.W.mg_of X G h_flag
    k_flag := k_flag
    f_move := fun_mk (st := s_move) l_move c_move k_move
    bi_move := (fun_mk (st := s_move) l_move c_move k_move).binds (ps := p_move) fun _ _ _ _ _ _ us hl => match us, hl with | [_, _, _, _, _], _ => rfl
    g_move := PySem.W.mg_of X G h_move
    k_move := k_move
    f_continues := fun_mk (st := s_continues) l_continues c_continues k_continues
    bi_continues := (fun_mk (st := s_continues) l_continues c_continues k_continues).binds (ps := p_continues) fun _ _ _ _ _ _ us hl => match us, hl with | [_, _], _ => rfl
    g_continues := PySem.W.mg_of X G h_continues
    k_continues := k_continues
    f_regions := fun_mk (st := s_regions) l_regions c_regions k_regions
    bi_regions := (fun_mk (st := s_regions) l_regions c_regions k_regions).binds (ps := p_regions) fun _ _ _ _ _ _ us hl => match us, hl with | [_, _], _ => rfl
    g_regions := PySem.W.mg_of X G h_regions
    k_regions := k_regions
    f_free_runs := fun_mk (st := s_free_runs) l_free_runs c_free_runs k_free_runs
    bi_free_runs := (fun_mk (st := s_free_runs) l_free_runs c_free_runs k_free_runs).binds (ps := p_free_runs) fun _ _ _ _ _ _ us hl => match us, hl with | [_], _ => rfl
    g_free_runs := PySem.W.mg_of X G h_free_runs
    k_free_runs := k_free_runs
    f_lowest_gap := fun_mk (st := s_lowest_gap) l_lowest_gap c_lowest_gap k_lowest_gap
    bi_lowest_gap := (fun_mk (st := s_lowest_gap) l_lowest_gap c_lowest_gap k_lowest_gap).binds (ps := p_lowest_gap) fun _ _ _ _ _ _ us hl => match us, hl with | [_, _], _ => rfl
    g_lowest_gap := PySem.W.mg_of X G h_lowest_gap
    k_lowest_gap := k_lowest_gap
    f_new_process := fun_mk (st := s_new_process) l_new_process c_new_process k_new_process
    bi_new_process := (fun_mk (st := s_new_process) l_new_process c_new_process k_new_process).binds (ps := p_new_process) fun _ _ _ _ _ _ us hl => match us, hl with | [_], _ => rfl
    g_new_process := PySem.W.mg_of X G h_new_process
    k_new_process := k_new_process
    f_unmap_all := fun_mk (st := s_unmap_all) l_unmap_all c_unmap_all k_unmap_all
    bi_unmap_all := (fun_mk (st := s_unmap_all) l_unmap_all c_unmap_all k_unmap_all).binds (ps := p_unmap_all) fun _ _ _ _ _ _ us hl => match us, hl with | [_, _], _ => rfl
    g_unmap_all := PySem.W.mg_of X G h_unmap_all
    k_unmap_all := k_unmap_all
    f_end_process := fun_mk (st := s_end_process) l_end_process c_end_process k_end_process
    bi_end_process := (fun_mk (st := s_end_process) l_end_process c_end_process k_end_process).binds (ps := p_end_process) fun _ _ _ _ _ _ us hl => match us, hl with | [_, _], _ => rfl
    g_end_process := PySem.W.mg_of X G h_end_process
    k_end_process := k_end_process
    f_spawn := fun_mk (st := s_spawn) l_spawn c_spawn k_spawn
    bi_spawn := (fun_mk (st := s_spawn) l_spawn c_spawn k_spawn).binds (ps := p_spawn) fun _ _ _ _ _ _ us hl => match us, hl with | [_], _ => rfl
    g_spawn := PySem.W.mg_of X G h_spawn
    k_spawn := k_spawn
    f_child_page := fun_mk (st := s_child_page) l_child_page c_child_page k_child_page
    bi_child_page := (fun_mk (st := s_child_page) l_child_page c_child_page k_child_page).binds (ps := p_child_page) fun _ _ _ _ _ _ us hl => match us, hl with | [_, _], _ => rfl
    g_child_page := PySem.W.mg_of X G h_child_page
    k_child_page := k_child_page
    f_pages_of_child := fun_mk (st := s_pages_of_child) l_pages_of_child c_pages_of_child k_pages_of_child
    bi_pages_of_child := (fun_mk (st := s_pages_of_child) l_pages_of_child c_pages_of_child k_pages_of_child).binds (ps := p_pages_of_child) fun _ _ _ _ _ _ us hl => match us, hl with | [_, _], _ => rfl
    g_pages_of_child := PySem.W.mg_of X G h_pages_of_child
    k_pages_of_child := k_pages_of_child
    f_fork := fun_mk (st := s_fork) l_fork c_fork k_fork
    bi_fork := (fun_mk (st := s_fork) l_fork c_fork k_fork).binds (ps := p_fork) fun _ _ _ _ _ _ us hl => match us, hl with | [_, _], _ => rfl
    g_fork := PySem.W.mg_of X G h_fork
    k_fork := k_fork
    f_leave := fun_mk (st := s_leave) l_leave c_leave k_leave
    bi_leave := (fun_mk (st := s_leave) l_leave c_leave k_leave).binds (ps := p_leave) fun _ _ _ _ _ _ us hl => match us, hl with | [_, _], _ => rfl
    g_leave := PySem.W.mg_of X G h_leave
    k_leave := k_leave
    f_fresh := fun_mk (st := s_fresh) l_fresh c_fresh k_fresh
    bi_fresh := (fun_mk (st := s_fresh) l_fresh c_fresh k_fresh).binds (ps := p_fresh) fun _ _ _ _ _ _ us hl => match us, hl with | [_, _], _ => rfl
    g_fresh := PySem.W.mg_of X G h_fresh
    k_fresh := k_fresh
    f_processes := fun_mk (st := s_processes) l_processes c_processes k_processes
    bi_processes := (fun_mk (st := s_processes) l_processes c_processes k_processes).binds (ps := p_processes) fun _ _ _ _ _ _ us hl => match us, hl with | [_], _ => rfl
    g_processes := PySem.W.mg_of X G h_processes
    k_processes := k_processes
    f_is_name := fun_mk (st := s_is_name) l_is_name c_is_name k_is_name
    bi_is_name := (fun_mk (st := s_is_name) l_is_name c_is_name k_is_name).binds (ps := p_is_name) fun _ _ _ _ _ _ us hl => match us, hl with | [_], _ => rfl
    g_is_name := PySem.W.mg_of X G h_is_name
    k_is_name := k_is_name
    f_new_pages_of_file := fun_mk (st := s_new_pages_of_file) l_new_pages_of_file c_new_pages_of_file k_new_pages_of_file
    bi_new_pages_of_file := (fun_mk (st := s_new_pages_of_file) l_new_pages_of_file c_new_pages_of_file k_new_pages_of_file).binds (ps := p_new_pages_of_file) fun _ _ _ _ _ _ us hl => match us, hl with | [_, _, _], _ => rfl
    g_new_pages_of_file := PySem.W.mg_of X G h_new_pages_of_file
    k_new_pages_of_file := k_new_pages_of_file
    f_create := fun_mk (st := s_create) l_create c_create k_create
    bi_create := (fun_mk (st := s_create) l_create c_create k_create).binds (ps := p_create) fun _ _ _ _ _ _ us hl => match us, hl with | [_, _, _], _ => rfl
    g_create := PySem.W.mg_of X G h_create
    k_create := k_create
    f__law_well := fun_mk (st := s__law_well) l__law_well c__law_well k__law_well
    bi__law_well := (fun_mk (st := s__law_well) l__law_well c__law_well k__law_well).binds (ps := p__law_well) fun _ _ _ _ _ _ us hl => match us, hl with | [_], _ => rfl
    g__law_well := PySem.W.mg_of X G h__law_well
    k__law_well := k__law_well
    f__law_draw := fun_mk (st := s__law_draw) l__law_draw c__law_draw k__law_draw
    bi__law_draw := (fun_mk (st := s__law_draw) l__law_draw c__law_draw k__law_draw).binds (ps := p__law_draw) fun _ _ _ _ _ _ us hl => match us, hl with | [_, _], _ => rfl
    g__law_draw := PySem.W.mg_of X G h__law_draw
    k__law_draw := k__law_draw
    f__law_one := fun_mk (st := s__law_one) l__law_one c__law_one k__law_one
    bi__law_one := (fun_mk (st := s__law_one) l__law_one c__law_one k__law_one).binds (ps := p__law_one) fun _ _ _ _ _ _ us hl => match us, hl with | [_, _], _ => rfl
    g__law_one := PySem.W.mg_of X G h__law_one
    k__law_one := k__law_one
    f__law_fits := fun_mk (st := s__law_fits) l__law_fits c__law_fits k__law_fits
    bi__law_fits := (fun_mk (st := s__law_fits) l__law_fits c__law_fits k__law_fits).binds (ps := p__law_fits) fun _ _ _ _ _ _ us hl => match us, hl with | [_, _], _ => rfl
    g__law_fits := PySem.W.mg_of X G h__law_fits
    k__law_fits := k__law_fits
    f__law_regions := fun_mk (st := s__law_regions) l__law_regions c__law_regions k__law_regions
    bi__law_regions := (fun_mk (st := s__law_regions) l__law_regions c__law_regions k__law_regions).binds (ps := p__law_regions) fun _ _ _ _ _ _ us hl => match us, hl with | [_], _ => rfl
    g__law_regions := PySem.W.mg_of X G h__law_regions
    k__law_regions := k__law_regions
    f__law_alive := fun_mk (st := s__law_alive) l__law_alive c__law_alive k__law_alive
    bi__law_alive := (fun_mk (st := s__law_alive) l__law_alive c__law_alive k__law_alive).binds (ps := p__law_alive) fun _ _ _ _ _ _ us hl => match us, hl with | [_, _], _ => rfl
    g__law_alive := PySem.W.mg_of X G h__law_alive
    k__law_alive := k__law_alive
    f__law_mapped := fun_mk (st := s__law_mapped) l__law_mapped c__law_mapped k__law_mapped
    bi__law_mapped := (fun_mk (st := s__law_mapped) l__law_mapped c__law_mapped k__law_mapped).binds (ps := p__law_mapped) fun _ _ _ _ _ _ us hl => match us, hl with | [_, _, _, _], _ => rfl
    g__law_mapped := PySem.W.mg_of X G h__law_mapped
    k__law_mapped := k__law_mapped
    f__law_range := fun_mk (st := s__law_range) l__law_range c__law_range k__law_range
    bi__law_range := (fun_mk (st := s__law_range) l__law_range c__law_range k__law_range).binds (ps := p__law_range) fun _ _ _ _ _ _ us hl => match us, hl with | [_, _], _ => rfl
    g__law_range := PySem.W.mg_of X G h__law_range
    k__law_range := k__law_range
    f__law_changed := fun_mk (st := s__law_changed) l__law_changed c__law_changed k__law_changed
    bi__law_changed := (fun_mk (st := s__law_changed) l__law_changed c__law_changed k__law_changed).binds (ps := p__law_changed) fun _ _ _ _ _ _ us hl => match us, hl with | [_, _, _, _], _ => rfl
    g__law_changed := PySem.W.mg_of X G h__law_changed
    k__law_changed := k__law_changed
    f__law_ended := fun_mk (st := s__law_ended) l__law_ended c__law_ended k__law_ended
    bi__law_ended := (fun_mk (st := s__law_ended) l__law_ended c__law_ended k__law_ended).binds (ps := p__law_ended) fun _ _ _ _ _ _ us hl => match us, hl with | [_, _, _, _], _ => rfl
    g__law_ended := PySem.W.mg_of X G h__law_ended
    k__law_ended := k__law_ended
    f__law_step := fun_mk (st := s__law_step) l__law_step c__law_step k__law_step
    bi__law_step := (fun_mk (st := s__law_step) l__law_step c__law_step k__law_step).binds (ps := p__law_step) fun _ _ _ _ _ _ us hl => match us, hl with | [_, _, _, _], _ => rfl
    g__law_step := PySem.W.mg_of X G h__law_step
    k__law_step := k__law_step
    f_law := fun_mk (st := s_law) l_law c_law k_law
    bi_law := (fun_mk (st := s_law) l_law c_law k_law).binds (ps := p_law) fun _ _ _ _ _ _ us hl => match us, hl with | [_], _ => rfl
    g_law := PySem.W.mg_of X G h_law
    k_law := k_law
    g_NoProcess := PySem.W.mg_of X G h_NoProcess
    g_NoPages := PySem.W.mg_of X G h_NoPages
    g_NotMapped := PySem.W.mg_of X G h_NotMapped
    g_NoFile := PySem.W.mg_of X G h_NoFile
    g_Taken := PySem.W.mg_of X G h_Taken
    g_NoLock := PySem.W.mg_of X G h_NoLock
    g_System := PySem.W.mg_of X G h_System
    g_Page := PySem.W.mg_of X G h_Page
    g_Item := PySem.W.mg_of X G h_Item
    g_History := PySem.W.mg_of X G h_History
    f_NoProcess_init := fun_mk (st := s_NoProcess_init) l_NoProcess_init c_NoProcess_init k_NoProcess_init
    bi_NoProcess_init := (fun_mk (st := s_NoProcess_init) l_NoProcess_init c_NoProcess_init k_NoProcess_init).binds (ps := p_NoProcess_init) fun _ _ _ _ _ _ us hl => match us, hl with | [_, _], _ => rfl
    f_NoPages_init := fun_mk (st := s_NoPages_init) l_NoPages_init c_NoPages_init k_NoPages_init
    bi_NoPages_init := (fun_mk (st := s_NoPages_init) l_NoPages_init c_NoPages_init k_NoPages_init).binds (ps := p_NoPages_init) fun _ _ _ _ _ _ us hl => match us, hl with | [_, _], _ => rfl
    f_NotMapped_init := fun_mk (st := s_NotMapped_init) l_NotMapped_init c_NotMapped_init k_NotMapped_init
    bi_NotMapped_init := (fun_mk (st := s_NotMapped_init) l_NotMapped_init c_NotMapped_init k_NotMapped_init).binds (ps := p_NotMapped_init) fun _ _ _ _ _ _ us hl => match us, hl with | [_, _], _ => rfl
    f_NoFile_init := fun_mk (st := s_NoFile_init) l_NoFile_init c_NoFile_init k_NoFile_init
    bi_NoFile_init := (fun_mk (st := s_NoFile_init) l_NoFile_init c_NoFile_init k_NoFile_init).binds (ps := p_NoFile_init) fun _ _ _ _ _ _ us hl => match us, hl with | [_, _], _ => rfl
    f_Taken_init := fun_mk (st := s_Taken_init) l_Taken_init c_Taken_init k_Taken_init
    bi_Taken_init := (fun_mk (st := s_Taken_init) l_Taken_init c_Taken_init k_Taken_init).binds (ps := p_Taken_init) fun _ _ _ _ _ _ us hl => match us, hl with | [_, _], _ => rfl
    f_NoLock_init := fun_mk (st := s_NoLock_init) l_NoLock_init c_NoLock_init k_NoLock_init
    bi_NoLock_init := (fun_mk (st := s_NoLock_init) l_NoLock_init c_NoLock_init k_NoLock_init).binds (ps := p_NoLock_init) fun _ _ _ _ _ _ us hl => match us, hl with | [_, _], _ => rfl
    f_Item_init := fun_mk (st := s_Item_init) l_Item_init c_Item_init k_Item_init
    bi_Item_init := (fun_mk (st := s_Item_init) l_Item_init c_Item_init k_Item_init).binds (ps := p_Item_init) fun _ _ _ _ _ _ us hl => match us, hl with | [_, _, _, _], _ => rfl
    f_Page_init := fun_mk (st := s_Page_init) l_Page_init c_Page_init k_Page_init
    bi_Page_init := (fun_mk (st := s_Page_init) l_Page_init c_Page_init k_Page_init).binds (ps := p_Page_init) fun _ _ _ _ _ _ us hl => match us, hl with | [_, _, _, _, _, _, _, _], _ => rfl
    f_History_init := fun_mk (st := s_History_init) l_History_init c_History_init k_History_init
    bi_History_init := (fun_mk (st := s_History_init) l_History_init c_History_init k_History_init).binds (ps := p_History_init) fun _ _ _ _ _ _ us hl => match us, hl with | [_], _ => rfl
    f_System_init := ⟨⟨_, _, _, _, _, _, _, _, _, _, rfl, l_System_init, c_System_init, .inl ⟨rfl, rfl⟩, .inr ⟨kD_System_init, rfl, by
      intro q hq
      simp only [kw_System_init, List.mem_cons, List.not_mem_nil, or_false] at hq
      rcases hq with h | h | h
      · subst h; exact ⟨_, kd_System_init_frames, rfl⟩
      · subst h; exact ⟨_, kd_System_init_slots, rfl⟩
      · subst h; exact ⟨_, kd_System_init_strict, rfl⟩⟩⟩, k_System_init⟩
    x_NoProcess := ⟨⟨_, _, _, _, _, _, _, _, _, _, _, _, _, _, _, xL_NoProcess, xR_NoProcess⟩, xS_NoProcess, xE_NoProcess, xT_NoProcess, xK_NoProcess⟩
    xf_NoProcess := ⟨xG_NoProcess, xH_NoProcess, xE_NoProcess, xD_NoProcess⟩
    xn_NoProcess := xN_NoProcess
    xi_NoProcess := h_NoProcess_init
    xt_NoProcess := xi_NoProcess
    x_NoPages := ⟨⟨_, _, _, _, _, _, _, _, _, _, _, _, _, _, _, xL_NoPages, xR_NoPages⟩, xS_NoPages, xE_NoPages, xT_NoPages, xK_NoPages⟩
    xf_NoPages := ⟨xG_NoPages, xH_NoPages, xE_NoPages, xD_NoPages⟩
    xn_NoPages := xN_NoPages
    xi_NoPages := h_NoPages_init
    xt_NoPages := xi_NoPages
    x_NotMapped := ⟨⟨_, _, _, _, _, _, _, _, _, _, _, _, _, _, _, xL_NotMapped, xR_NotMapped⟩, xS_NotMapped, xE_NotMapped, xT_NotMapped, xK_NotMapped⟩
    xf_NotMapped := ⟨xG_NotMapped, xH_NotMapped, xE_NotMapped, xD_NotMapped⟩
    xn_NotMapped := xN_NotMapped
    xi_NotMapped := h_NotMapped_init
    xt_NotMapped := xi_NotMapped
    x_NoFile := ⟨⟨_, _, _, _, _, _, _, _, _, _, _, _, _, _, _, xL_NoFile, xR_NoFile⟩, xS_NoFile, xE_NoFile, xT_NoFile, xK_NoFile⟩
    xf_NoFile := ⟨xG_NoFile, xH_NoFile, xE_NoFile, xD_NoFile⟩
    xn_NoFile := xN_NoFile
    xi_NoFile := h_NoFile_init
    xt_NoFile := xi_NoFile
    x_Taken := ⟨⟨_, _, _, _, _, _, _, _, _, _, _, _, _, _, _, xL_Taken, xR_Taken⟩, xS_Taken, xE_Taken, xT_Taken, xK_Taken⟩
    xf_Taken := ⟨xG_Taken, xH_Taken, xE_Taken, xD_Taken⟩
    xn_Taken := xN_Taken
    xi_Taken := h_Taken_init
    xt_Taken := xi_Taken
    x_NoLock := ⟨⟨_, _, _, _, _, _, _, _, _, _, _, _, _, _, _, xL_NoLock, xR_NoLock⟩, xS_NoLock, xE_NoLock, xT_NoLock, xK_NoLock⟩
    xf_NoLock := ⟨xG_NoLock, xH_NoLock, xE_NoLock, xD_NoLock⟩
    xn_NoLock := xN_NoLock
    xi_NoLock := h_NoLock_init
    xt_NoLock := xi_NoLock
    cl_System := ⟨pg_System, hd_System, po_System, sa_System⟩
    mk_System := ⟨mk_System, h_System_init, ii_System, kc_System⟩
    n_System_frames := na_System_frames
    n_System_slots := na_System_slots
    n_System_strict := na_System_strict
    n_System_steps_made := na_System_steps_made
    n_System_processes_made := na_System_processes_made
    n_System_objects_made := na_System_objects_made
    n_System_tables := na_System_tables
    n_System_objects := na_System_objects
    n_System_object_pages := na_System_object_pages
    n_System_files := na_System_files
    n_System_classes := na_System_classes
    n_System_locked_pages := na_System_locked_pages
    n_System_memory := na_System_memory
    n_System_swapped := na_System_swapped
    n_System_faults := na_System_faults
    n_System_swap_outs := na_System_swap_outs
    n_System_write_backs := na_System_write_backs
    n_System_history := na_System_history
    cl_Page := ⟨pg_Page, hd_Page, po_Page, sa_Page⟩
    mk_Page := ⟨mk_Page, h_Page_init, ii_Page, kc_Page⟩
    n_Page_rights := na_Page_rights
    n_Page_shared := na_Page_shared
    n_Page_source := na_Page_source
    n_Page_index := na_Page_index
    n_Page_flags := na_Page_flags
    n_Page_held := na_Page_held
    n_Page_stamp := na_Page_stamp
    cl_Item := ⟨pg_Item, hd_Item, po_Item, sa_Item⟩
    mk_Item := ⟨mk_Item, h_Item_init, ii_Item, kc_Item⟩
    n_Item_source := na_Item_source
    n_Item_index := na_Item_index
    n_Item_content := na_Item_content
    n_Item_origin := na_Item_origin
    n_Item_position := na_Item_position
    n_Item_holders := na_Item_holders
    n_Item_locks := na_Item_locks
    n_Item_dirty := na_Item_dirty
    n_Item_on_disk := na_Item_on_disk
    n_Item_dirty_from := na_Item_dirty_from
    n_Item_saved := na_Item_saved
    n_Item_saved_with := na_Item_saved_with
    cl_History := ⟨pg_History, hd_History, po_History, sa_History⟩
    mk_History := ⟨mk_History, h_History_init, ii_History, kc_History⟩
    n_History_row := na_History_row
    n_History_holes := na_History_holes
    n_History_locked := na_History_locked
    n_History_classes := na_History_classes
    n_History_touches := na_History_touches
    n_History_distances := na_History_distances
    n_History_swap_outs := na_History_swap_outs
    n_History_write_backs := na_History_write_backs
    n_History_most_slots := na_History_most_slots
    n_History_saves := na_History_saves
    n_History_lock_changes := na_History_lock_changes
    n_History_most_locked := na_History_most_locked
    n_History_crashed := na_History_crashed
    n_History_merged := na_History_merged
    g_PAGES := PySem.W.mg_of X G gc_PAGES
    g_FILE_PAGES := PySem.W.mg_of X G gc_FILE_PAGES
    b_int := PySem.W.mg_none_of X G b_int
    b_len := PySem.W.mg_none_of X G b_len
    b_isinstance := PySem.W.mg_none_of X G b_isinstance
    b_bool := PySem.W.mg_none_of X G b_bool
    b_str := PySem.W.mg_none_of X G b_str
    b_list := PySem.W.mg_none_of X G b_list
    b_range := PySem.W.mg_none_of X G b_range
    b_enumerate := PySem.W.mg_none_of X G b_enumerate
    b_sorted := PySem.W.mg_none_of X G b_sorted
    b_tuple := PySem.W.mg_none_of X G b_tuple
    b_dict := PySem.W.mg_none_of X G b_dict
    b_all := PySem.W.mg_none_of X G b_all
    b_min := PySem.W.mg_none_of X G b_min
    b_abs := PySem.W.mg_none_of X G b_abs
    g_RIGHTS := PySem.W.mg_of X G gR
    r_RIGHTS := rR
    g_FLAGS := PySem.W.mg_of X G gF
    r_FLAGS := rF
    g_ZEROS := PySem.W.mg_of X G gZ
    r_ZEROS := rZ }
theorem fin {l : PySem.W.OpenLaw} {w : World} {K : PySem.W.Frag} {mg : Str → Option Value} {fa : Addr} {h : Heap} {A : Adr}
    (G : Txt K mg A) (KX : K.In h) (hmg : mg "law" = some (.ref fa)) :
    ∃ fd : FuncData, (∀ (s : Shared) (u : Value), BindsTo s fd ⟨[u], []⟩ [(("script" : Str), u)]) ∧
        ∀ base : Heap, K.In base → base.Ns mainGlobals mg → FnOk l.prog w K mg base CX0 9 fa fd ["script"] (spLaw K) := by
  have ea : A.a_law = fa := by
    have := G.g_law.symm.trans hmg
    cases this
    rfl
  refine ⟨A.fd_law, ?_, fun base _ _ => ?_⟩
  · obtain ⟨oc, od, kV, doc, pm, an, cdv, ct, osl, hfd, lk, hcd⟩ := G.f_law.ex
    intro s u
    rw [hfd]
    exact .of_eq rfl
  · rw [← ea]
    exact ok_law G
end My
open PySem PySem.W PyProof.Rows
set_option maxRecDepth 100000 in
set_option maxHeartbeats 0 in
theorem PySem.Challenge.cw_pageclass_k04_regions_walked_holds : PySem.Challenge.rw_pageclass_k04_regions_walked.Holds := by
  w_on; o_law
  refine HP.head (r := HP.R) (q := HP.qv) (loose := HP.names) (M := 12000) (K := HP.fr.K) (as := HP.fr.as) (ek := HP.fr.ek) (d := HP.topDef HP.R.prog 104) (kwd := []) HP.run (by kernel_rfl) (by kernel_rfl) (by kernel_rfl)
    (by rfl) (by first | assumption | decide +kernel) (by decide +kernel) ⟨rfl, rfl, rfl, rfl, rfl, by decide +kernel⟩ ?hw ?hc
  case hw => w_witness2
  unfold HP.fr
  dsimp only
  k_fill
  refine L2.walk_ofK (l := PySem.Challenge.rw_pageclass_k04_regions_walked) (CX := L2.CX0) (k := 9) (n := 63) (sp := My.spLaw) (x := "script") rfl (by decide) (by kernel_rfl) ⟨rfl, by decide, by decide⟩ (fun w h Y => Y) ?F ?S (fun _ _ _ _ z => z)
  case S =>
    intro K H a ns hn _ hS
    exact ⟨a, ns, rfl, hS, hn, fun _ => rfl⟩
  case F =>
    intro w mg fa h KX G hmg
    refine' My.fin (My.all_mk KX G ?h_with_rights ?l_with_rights ?c_with_rights ?k_with_rights ?h_with_flags ?l_with_flags ?c_with_flags ?k_with_flags ?h_with_lock ?l_with_lock ?c_with_lock ?k_with_lock ?h_with_held ?l_with_held ?c_with_held ?k_with_held ?h_with_stamp ?l_with_stamp ?c_with_stamp ?k_with_stamp ?h_attributes ?l_attributes ?c_attributes ?k_attributes ?h_has_object ?l_has_object ?c_has_object ?k_has_object ?h_arrange_locked ?l_arrange_locked ?c_arrange_locked ?k_arrange_locked ?h_add_locked ?l_add_locked ?c_add_locked ?k_add_locked ?h_this_step ?l_this_step ?c_this_step ?k_this_step ?h_count_page ?l_count_page ?c_count_page ?k_count_page ?h_discount_page ?l_discount_page ?c_discount_page ?k_discount_page ?h_discount_user ?l_discount_user ?c_discount_user ?k_discount_user ?h_replace_pages ?l_replace_pages ?c_replace_pages ?k_replace_pages ?h_end_step ?l_end_step ?c_end_step ?k_end_step ?h_is_integer ?l_is_integer ?c_is_integer ?k_is_integer ?h_is_word ?l_is_word ?c_is_word ?k_is_word ?h_require ?l_require ?c_require ?k_require ?h_table_of ?l_table_of ?c_table_of ?k_table_of ?h_numbers_of ?l_numbers_of ?c_numbers_of ?k_numbers_of ?h_require_mapped ?l_require_mapped ?c_require_mapped ?k_require_mapped ?h_require_unlocked ?l_require_unlocked ?c_require_unlocked ?k_require_unlocked ?h_file_of ?l_file_of ?c_file_of ?k_file_of ?h_require_charge ?l_require_charge ?c_require_charge ?k_require_charge ?h_require_source ?l_require_source ?c_require_source ?k_require_source ?h_place_for ?l_place_for ?c_place_for ?k_place_for ?h_map_pages ?l_map_pages ?c_map_pages ?k_map_pages ?kd_map_pages_rights ?kd_map_pages_shared ?kd_map_pages_source ?kd_map_pages_index ?kd_map_pages_at ?h_new_pages ?l_new_pages ?c_new_pages ?k_new_pages ?h_unmap ?l_unmap ?c_unmap ?k_unmap ?h_protect ?l_protect ?c_protect ?k_protect ?h_flags_with ?l_flags_with ?c_flags_with ?k_flags_with ?h_flag ?l_flag ?c_flag ?k_flag ?kd_flag_merge ?kd_flag_stay ?kd_flag_wipe ?h_move ?l_move ?c_move ?k_move ?h_continues ?l_continues ?c_continues ?k_continues ?h_regions ?l_regions ?c_regions ?k_regions ?h_free_runs ?l_free_runs ?c_free_runs ?k_free_runs ?h_lowest_gap ?l_lowest_gap ?c_lowest_gap ?k_lowest_gap ?h_new_process ?l_new_process ?c_new_process ?k_new_process ?h_unmap_all ?l_unmap_all ?c_unmap_all ?k_unmap_all ?h_end_process ?l_end_process ?c_end_process ?k_end_process ?h_spawn ?l_spawn ?c_spawn ?k_spawn ?h_child_page ?l_child_page ?c_child_page ?k_child_page ?h_pages_of_child ?l_pages_of_child ?c_pages_of_child ?k_pages_of_child ?h_fork ?l_fork ?c_fork ?k_fork ?h_leave ?l_leave ?c_leave ?k_leave ?h_fresh ?l_fresh ?c_fresh ?k_fresh ?h_processes ?l_processes ?c_processes ?k_processes ?h_is_name ?l_is_name ?c_is_name ?k_is_name ?h_new_pages_of_file ?l_new_pages_of_file ?c_new_pages_of_file ?k_new_pages_of_file ?h_create ?l_create ?c_create ?k_create ?h__law_well ?l__law_well ?c__law_well ?k__law_well ?h__law_draw ?l__law_draw ?c__law_draw ?k__law_draw ?h__law_one ?l__law_one ?c__law_one ?k__law_one ?h__law_fits ?l__law_fits ?c__law_fits ?k__law_fits ?h__law_regions ?l__law_regions ?c__law_regions ?k__law_regions ?h__law_alive ?l__law_alive ?c__law_alive ?k__law_alive ?h__law_mapped ?l__law_mapped ?c__law_mapped ?k__law_mapped ?h__law_range ?l__law_range ?c__law_range ?k__law_range ?h__law_changed ?l__law_changed ?c__law_changed ?k__law_changed ?h__law_ended ?l__law_ended ?c__law_ended ?k__law_ended ?h__law_step ?l__law_step ?c__law_step ?k__law_step ?h_law ?l_law ?c_law ?k_law ?h_NoProcess ?h_NoPages ?h_NotMapped ?h_NoFile ?h_Taken ?h_NoLock ?h_System ?h_Page ?h_Item ?h_History ?h_NoProcess_init ?l_NoProcess_init ?c_NoProcess_init ?k_NoProcess_init ?h_NoPages_init ?l_NoPages_init ?c_NoPages_init ?k_NoPages_init ?h_NotMapped_init ?l_NotMapped_init ?c_NotMapped_init ?k_NotMapped_init ?h_NoFile_init ?l_NoFile_init ?c_NoFile_init ?k_NoFile_init ?h_Taken_init ?l_Taken_init ?c_Taken_init ?k_Taken_init ?h_NoLock_init ?l_NoLock_init ?c_NoLock_init ?k_NoLock_init ?h_Item_init ?l_Item_init ?c_Item_init ?k_Item_init ?h_Page_init ?l_Page_init ?c_Page_init ?k_Page_init ?h_History_init ?l_History_init ?c_History_init ?k_History_init ?h_System_init ?l_System_init ?c_System_init ?k_System_init ?kd_System_init_frames ?kd_System_init_slots ?kd_System_init_strict ?xL_NoProcess ?xR_NoProcess ?xS_NoProcess ?xE_NoProcess ?xT_NoProcess ?xK_NoProcess ?xG_NoProcess ?xH_NoProcess ?xD_NoProcess ?xC_NoProcess ?xN_NoProcess ?xi_NoProcess ?xL_NoPages ?xR_NoPages ?xS_NoPages ?xE_NoPages ?xT_NoPages ?xK_NoPages ?xG_NoPages ?xH_NoPages ?xD_NoPages ?xC_NoPages ?xN_NoPages ?xi_NoPages ?xL_NotMapped ?xR_NotMapped ?xS_NotMapped ?xE_NotMapped ?xT_NotMapped ?xK_NotMapped ?xG_NotMapped ?xH_NotMapped ?xD_NotMapped ?xC_NotMapped ?xN_NotMapped ?xi_NotMapped ?xL_NoFile ?xR_NoFile ?xS_NoFile ?xE_NoFile ?xT_NoFile ?xK_NoFile ?xG_NoFile ?xH_NoFile ?xD_NoFile ?xC_NoFile ?xN_NoFile ?xi_NoFile ?xL_Taken ?xR_Taken ?xS_Taken ?xE_Taken ?xT_Taken ?xK_Taken ?xG_Taken ?xH_Taken ?xD_Taken ?xC_Taken ?xN_Taken ?xi_Taken ?xL_NoLock ?xR_NoLock ?xS_NoLock ?xE_NoLock ?xT_NoLock ?xK_NoLock ?xG_NoLock ?xH_NoLock ?xD_NoLock ?xC_NoLock ?xN_NoLock ?xi_NoLock ?pg_System ?hd_System ?po_System ?sa_System ?mk_System ?kc_System ?ii_System ?na_System_frames ?na_System_slots ?na_System_strict ?na_System_steps_made ?na_System_processes_made ?na_System_objects_made ?na_System_tables ?na_System_objects ?na_System_object_pages ?na_System_files ?na_System_classes ?na_System_locked_pages ?na_System_memory ?na_System_swapped ?na_System_faults ?na_System_swap_outs ?na_System_write_backs ?na_System_history ?pg_Page ?hd_Page ?po_Page ?sa_Page ?mk_Page ?kc_Page ?ii_Page ?na_Page_rights ?na_Page_shared ?na_Page_source ?na_Page_index ?na_Page_flags ?na_Page_held ?na_Page_stamp ?pg_Item ?hd_Item ?po_Item ?sa_Item ?mk_Item ?kc_Item ?ii_Item ?na_Item_source ?na_Item_index ?na_Item_content ?na_Item_origin ?na_Item_position ?na_Item_holders ?na_Item_locks ?na_Item_dirty ?na_Item_on_disk ?na_Item_dirty_from ?na_Item_saved ?na_Item_saved_with ?pg_History ?hd_History ?po_History ?sa_History ?mk_History ?kc_History ?ii_History ?na_History_row ?na_History_holes ?na_History_locked ?na_History_classes ?na_History_touches ?na_History_distances ?na_History_swap_outs ?na_History_write_backs ?na_History_most_slots ?na_History_saves ?na_History_lock_changes ?na_History_most_locked ?na_History_crashed ?na_History_merged ?gc_PAGES ?gc_FILE_PAGES ?b_int ?b_len ?b_isinstance ?b_bool ?b_str ?b_list ?b_range ?b_enumerate ?b_sorted ?b_tuple ?b_dict ?b_all ?b_min ?b_abs ?gR ?rR ?gF ?rF ?gZ ?rZ) KX hmg
    (case h_with_rights => k_is)
    (case l_with_rights => k_is)
    (case c_with_rights => k_is)
    (case k_with_rights => k_is)
    (case h_with_flags => k_is)
    (case l_with_flags => k_is)
    (case c_with_flags => k_is)
    (case k_with_flags => k_is)
    (case h_with_lock => k_is)
    (case l_with_lock => k_is)
    (case c_with_lock => k_is)
    (case k_with_lock => k_is)
    (case h_with_held => k_is)
    (case l_with_held => k_is)
    (case c_with_held => k_is)
    (case k_with_held => k_is)
    (case h_with_stamp => k_is)
    (case l_with_stamp => k_is)
    (case c_with_stamp => k_is)
    (case k_with_stamp => k_is)
    (case h_attributes => k_is)
    (case l_attributes => k_is)
    (case c_attributes => k_is)
    (case k_attributes => k_is)
    (case h_has_object => k_is)
    (case l_has_object => k_is)
    (case c_has_object => k_is)
    (case k_has_object => k_is)
    (case h_arrange_locked => k_is)
    (case l_arrange_locked => k_is)
    (case c_arrange_locked => k_is)
    (case k_arrange_locked => k_is)
    (case h_add_locked => k_is)
    (case l_add_locked => k_is)
    (case c_add_locked => k_is)
    (case k_add_locked => k_is)
    (case h_this_step => k_is)
    (case l_this_step => k_is)
    (case c_this_step => k_is)
    (case k_this_step => k_is)
    (case h_count_page => k_is)
    (case l_count_page => k_is)
    (case c_count_page => k_is)
    (case k_count_page => k_is)
    (case h_discount_page => k_is)
    (case l_discount_page => k_is)
    (case c_discount_page => k_is)
    (case k_discount_page => k_is)
    (case h_discount_user => k_is)
    (case l_discount_user => k_is)
    (case c_discount_user => k_is)
    (case k_discount_user => k_is)
    (case h_replace_pages => k_is)
    (case l_replace_pages => k_is)
    (case c_replace_pages => k_is)
    (case k_replace_pages => k_is)
    (case h_end_step => k_is)
    (case l_end_step => k_is)
    (case c_end_step => k_is)
    (case k_end_step => k_is)
    (case h_is_integer => k_is)
    (case l_is_integer => k_is)
    (case c_is_integer => k_is)
    (case k_is_integer => k_is)
    (case h_is_word => k_is)
    (case l_is_word => k_is)
    (case c_is_word => k_is)
    (case k_is_word => k_is)
    (case h_require => k_is)
    (case l_require => k_is)
    (case c_require => k_is)
    (case k_require => k_is)
    (case h_table_of => k_is)
    (case l_table_of => k_is)
    (case c_table_of => k_is)
    (case k_table_of => k_is)
    (case h_numbers_of => k_is)
    (case l_numbers_of => k_is)
    (case c_numbers_of => k_is)
    (case k_numbers_of => k_is)
    (case h_require_mapped => k_is)
    (case l_require_mapped => k_is)
    (case c_require_mapped => k_is)
    (case k_require_mapped => k_is)
    (case h_require_unlocked => k_is)
    (case l_require_unlocked => k_is)
    (case c_require_unlocked => k_is)
    (case k_require_unlocked => k_is)
    (case h_file_of => k_is)
    (case l_file_of => k_is)
    (case c_file_of => k_is)
    (case k_file_of => k_is)
    (case h_require_charge => k_is)
    (case l_require_charge => k_is)
    (case c_require_charge => k_is)
    (case k_require_charge => k_is)
    (case h_require_source => k_is)
    (case l_require_source => k_is)
    (case c_require_source => k_is)
    (case k_require_source => k_is)
    (case h_place_for => k_is)
    (case l_place_for => k_is)
    (case c_place_for => k_is)
    (case k_place_for => k_is)
    (case h_map_pages => k_is)
    (case l_map_pages => k_is)
    (case c_map_pages => k_is)
    (case k_map_pages => k_is)
    (case kd_map_pages_rights => k_is)
    (case kd_map_pages_shared => k_is)
    (case kd_map_pages_source => k_is)
    (case kd_map_pages_index => k_is)
    (case kd_map_pages_at => k_is)
    (case h_new_pages => k_is)
    (case l_new_pages => k_is)
    (case c_new_pages => k_is)
    (case k_new_pages => k_is)
    (case h_unmap => k_is)
    (case l_unmap => k_is)
    (case c_unmap => k_is)
    (case k_unmap => k_is)
    (case h_protect => k_is)
    (case l_protect => k_is)
    (case c_protect => k_is)
    (case k_protect => k_is)
    (case h_flags_with => k_is)
    (case l_flags_with => k_is)
    (case c_flags_with => k_is)
    (case k_flags_with => k_is)
    (case h_flag => k_is)
    (case l_flag => k_is)
    (case c_flag => k_is)
    (case k_flag => k_is)
    (case kd_flag_merge => k_is)
    (case kd_flag_stay => k_is)
    (case kd_flag_wipe => k_is)
    (case h_move => k_is)
    (case l_move => k_is)
    (case c_move => k_is)
    (case k_move => k_is)
    (case h_continues => k_is)
    (case l_continues => k_is)
    (case c_continues => k_is)
    (case k_continues => k_is)
    (case h_regions => k_is)
    (case l_regions => k_is)
    (case c_regions => k_is)
    (case k_regions => k_is)
    (case h_free_runs => k_is)
    (case l_free_runs => k_is)
    (case c_free_runs => k_is)
    (case k_free_runs => k_is)
    (case h_lowest_gap => k_is)
    (case l_lowest_gap => k_is)
    (case c_lowest_gap => k_is)
    (case k_lowest_gap => k_is)
    (case h_new_process => k_is)
    (case l_new_process => k_is)
    (case c_new_process => k_is)
    (case k_new_process => k_is)
    (case h_unmap_all => k_is)
    (case l_unmap_all => k_is)
    (case c_unmap_all => k_is)
    (case k_unmap_all => k_is)
    (case h_end_process => k_is)
    (case l_end_process => k_is)
    (case c_end_process => k_is)
    (case k_end_process => k_is)
    (case h_spawn => k_is)
    (case l_spawn => k_is)
    (case c_spawn => k_is)
    (case k_spawn => k_is)
    (case h_child_page => k_is)
    (case l_child_page => k_is)
    (case c_child_page => k_is)
    (case k_child_page => k_is)
    (case h_pages_of_child => k_is)
    (case l_pages_of_child => k_is)
    (case c_pages_of_child => k_is)
    (case k_pages_of_child => k_is)
    (case h_fork => k_is)
    (case l_fork => k_is)
    (case c_fork => k_is)
    (case k_fork => k_is)
    (case h_leave => k_is)
    (case l_leave => k_is)
    (case c_leave => k_is)
    (case k_leave => k_is)
    (case h_fresh => k_is)
    (case l_fresh => k_is)
    (case c_fresh => k_is)
    (case k_fresh => k_is)
    (case h_processes => k_is)
    (case l_processes => k_is)
    (case c_processes => k_is)
    (case k_processes => k_is)
    (case h_is_name => k_is)
    (case l_is_name => k_is)
    (case c_is_name => k_is)
    (case k_is_name => k_is)
    (case h_new_pages_of_file => k_is)
    (case l_new_pages_of_file => k_is)
    (case c_new_pages_of_file => k_is)
    (case k_new_pages_of_file => k_is)
    (case h_create => k_is)
    (case l_create => k_is)
    (case c_create => k_is)
    (case k_create => k_is)
    (case h__law_well => k_is)
    (case l__law_well => k_is)
    (case c__law_well => k_is)
    (case k__law_well => k_is)
    (case h__law_draw => k_is)
    (case l__law_draw => k_is)
    (case c__law_draw => k_is)
    (case k__law_draw => k_is)
    (case h__law_one => k_is)
    (case l__law_one => k_is)
    (case c__law_one => k_is)
    (case k__law_one => k_is)
    (case h__law_fits => k_is)
    (case l__law_fits => k_is)
    (case c__law_fits => k_is)
    (case k__law_fits => k_is)
    (case h__law_regions => k_is)
    (case l__law_regions => k_is)
    (case c__law_regions => k_is)
    (case k__law_regions => k_is)
    (case h__law_alive => k_is)
    (case l__law_alive => k_is)
    (case c__law_alive => k_is)
    (case k__law_alive => k_is)
    (case h__law_mapped => k_is)
    (case l__law_mapped => k_is)
    (case c__law_mapped => k_is)
    (case k__law_mapped => k_is)
    (case h__law_range => k_is)
    (case l__law_range => k_is)
    (case c__law_range => k_is)
    (case k__law_range => k_is)
    (case h__law_changed => k_is)
    (case l__law_changed => k_is)
    (case c__law_changed => k_is)
    (case k__law_changed => k_is)
    (case h__law_ended => k_is)
    (case l__law_ended => k_is)
    (case c__law_ended => k_is)
    (case k__law_ended => k_is)
    (case h__law_step => k_is)
    (case l__law_step => k_is)
    (case c__law_step => k_is)
    (case k__law_step => k_is)
    (case h_law => k_is)
    (case l_law => k_is)
    (case c_law => k_is)
    (case k_law => k_is)
    (case h_NoProcess => k_is)
    (case h_NoPages => k_is)
    (case h_NotMapped => k_is)
    (case h_NoFile => k_is)
    (case h_Taken => k_is)
    (case h_NoLock => k_is)
    (case h_System => k_is)
    (case h_Page => k_is)
    (case h_Item => k_is)
    (case h_History => k_is)
    (case h_NoProcess_init => k_is)
    (case l_NoProcess_init => k_is)
    (case c_NoProcess_init => k_is)
    (case k_NoProcess_init => k_is)
    (case h_NoPages_init => k_is)
    (case l_NoPages_init => k_is)
    (case c_NoPages_init => k_is)
    (case k_NoPages_init => k_is)
    (case h_NotMapped_init => k_is)
    (case l_NotMapped_init => k_is)
    (case c_NotMapped_init => k_is)
    (case k_NotMapped_init => k_is)
    (case h_NoFile_init => k_is)
    (case l_NoFile_init => k_is)
    (case c_NoFile_init => k_is)
    (case k_NoFile_init => k_is)
    (case h_Taken_init => k_is)
    (case l_Taken_init => k_is)
    (case c_Taken_init => k_is)
    (case k_Taken_init => k_is)
    (case h_NoLock_init => k_is)
    (case l_NoLock_init => k_is)
    (case c_NoLock_init => k_is)
    (case k_NoLock_init => k_is)
    (case h_Item_init => k_is)
    (case l_Item_init => k_is)
    (case c_Item_init => k_is)
    (case k_Item_init => k_is)
    (case h_Page_init => k_is)
    (case l_Page_init => k_is)
    (case c_Page_init => k_is)
    (case k_Page_init => k_is)
    (case h_History_init => k_is)
    (case l_History_init => k_is)
    (case c_History_init => k_is)
    (case k_History_init => k_is)
    (case h_System_init => k_is)
    (case l_System_init => k_is)
    (case c_System_init => k_is)
    (case k_System_init => k_is)
    (case kd_System_init_frames => k_is)
    (case kd_System_init_slots => k_is)
    (case kd_System_init_strict => k_is)
    (case xL_NoProcess => k_is)
    (case xR_NoProcess => first | k_is | rfl | decide +kernel)
    (case xS_NoProcess => k_is)
    (case xE_NoProcess => k_is)
    (case xT_NoProcess => k_is)
    (case xK_NoProcess => k_is)
    (case xG_NoProcess => k_is)
    (case xH_NoProcess => k_is)
    (case xD_NoProcess => k_is)
    (case xC_NoProcess => k_is)
    (case xN_NoProcess => k_is)
    (case xi_NoProcess => k_is)
    (case xL_NoPages => k_is)
    (case xR_NoPages => first | k_is | rfl | decide +kernel)
    (case xS_NoPages => k_is)
    (case xE_NoPages => k_is)
    (case xT_NoPages => k_is)
    (case xK_NoPages => k_is)
    (case xG_NoPages => k_is)
    (case xH_NoPages => k_is)
    (case xD_NoPages => k_is)
    (case xC_NoPages => k_is)
    (case xN_NoPages => k_is)
    (case xi_NoPages => k_is)
    (case xL_NotMapped => k_is)
    (case xR_NotMapped => first | k_is | rfl | decide +kernel)
    (case xS_NotMapped => k_is)
    (case xE_NotMapped => k_is)
    (case xT_NotMapped => k_is)
    (case xK_NotMapped => k_is)
    (case xG_NotMapped => k_is)
    (case xH_NotMapped => k_is)
    (case xD_NotMapped => k_is)
    (case xC_NotMapped => k_is)
    (case xN_NotMapped => k_is)
    (case xi_NotMapped => k_is)
    (case xL_NoFile => k_is)
    (case xR_NoFile => first | k_is | rfl | decide +kernel)
    (case xS_NoFile => k_is)
    (case xE_NoFile => k_is)
    (case xT_NoFile => k_is)
    (case xK_NoFile => k_is)
    (case xG_NoFile => k_is)
    (case xH_NoFile => k_is)
    (case xD_NoFile => k_is)
    (case xC_NoFile => k_is)
    (case xN_NoFile => k_is)
    (case xi_NoFile => k_is)
    (case xL_Taken => k_is)
    (case xR_Taken => first | k_is | rfl | decide +kernel)
    (case xS_Taken => k_is)
    (case xE_Taken => k_is)
    (case xT_Taken => k_is)
    (case xK_Taken => k_is)
    (case xG_Taken => k_is)
    (case xH_Taken => k_is)
    (case xD_Taken => k_is)
    (case xC_Taken => k_is)
    (case xN_Taken => k_is)
    (case xi_Taken => k_is)
    (case xL_NoLock => k_is)
    (case xR_NoLock => first | k_is | rfl | decide +kernel)
    (case xS_NoLock => k_is)
    (case xE_NoLock => k_is)
    (case xT_NoLock => k_is)
    (case xK_NoLock => k_is)
    (case xG_NoLock => k_is)
    (case xH_NoLock => k_is)
    (case xD_NoLock => k_is)
    (case xC_NoLock => k_is)
    (case xN_NoLock => k_is)
    (case xi_NoLock => k_is)
    (case pg_System => k_is)
    (case hd_System => k_is)
    (case po_System => k_is)
    (case sa_System => k_is)
    (case mk_System => k_is)
    (case kc_System => k_is)
    (case ii_System => k_is)
    (case na_System_frames => k_is)
    (case na_System_slots => k_is)
    (case na_System_strict => k_is)
    (case na_System_steps_made => k_is)
    (case na_System_processes_made => k_is)
    (case na_System_objects_made => k_is)
    (case na_System_tables => k_is)
    (case na_System_objects => k_is)
    (case na_System_object_pages => k_is)
    (case na_System_files => k_is)
    (case na_System_classes => k_is)
    (case na_System_locked_pages => k_is)
    (case na_System_memory => k_is)
    (case na_System_swapped => k_is)
    (case na_System_faults => k_is)
    (case na_System_swap_outs => k_is)
    (case na_System_write_backs => k_is)
    (case na_System_history => k_is)
    (case pg_Page => k_is)
    (case hd_Page => k_is)
    (case po_Page => k_is)
    (case sa_Page => k_is)
    (case mk_Page => k_is)
    (case kc_Page => k_is)
    (case ii_Page => k_is)
    (case na_Page_rights => k_is)
    (case na_Page_shared => k_is)
    (case na_Page_source => k_is)
    (case na_Page_index => k_is)
    (case na_Page_flags => k_is)
    (case na_Page_held => k_is)
    (case na_Page_stamp => k_is)
    (case pg_Item => k_is)
    (case hd_Item => k_is)
    (case po_Item => k_is)
    (case sa_Item => k_is)
    (case mk_Item => k_is)
    (case kc_Item => k_is)
    (case ii_Item => k_is)
    (case na_Item_source => k_is)
    (case na_Item_index => k_is)
    (case na_Item_content => k_is)
    (case na_Item_origin => k_is)
    (case na_Item_position => k_is)
    (case na_Item_holders => k_is)
    (case na_Item_locks => k_is)
    (case na_Item_dirty => k_is)
    (case na_Item_on_disk => k_is)
    (case na_Item_dirty_from => k_is)
    (case na_Item_saved => k_is)
    (case na_Item_saved_with => k_is)
    (case pg_History => k_is)
    (case hd_History => k_is)
    (case po_History => k_is)
    (case sa_History => k_is)
    (case mk_History => k_is)
    (case kc_History => k_is)
    (case ii_History => k_is)
    (case na_History_row => k_is)
    (case na_History_holes => k_is)
    (case na_History_locked => k_is)
    (case na_History_classes => k_is)
    (case na_History_touches => k_is)
    (case na_History_distances => k_is)
    (case na_History_swap_outs => k_is)
    (case na_History_write_backs => k_is)
    (case na_History_most_slots => k_is)
    (case na_History_saves => k_is)
    (case na_History_lock_changes => k_is)
    (case na_History_most_locked => k_is)
    (case na_History_crashed => k_is)
    (case na_History_merged => k_is)
    (case gc_PAGES => k_is)
    (case gc_FILE_PAGES => k_is)
    (case b_int => k_is)
    (case b_len => k_is)
    (case b_isinstance => k_is)
    (case b_bool => k_is)
    (case b_str => k_is)
    (case b_list => k_is)
    (case b_range => k_is)
    (case b_enumerate => k_is)
    (case b_sorted => k_is)
    (case b_tuple => k_is)
    (case b_dict => k_is)
    (case b_all => k_is)
    (case b_min => k_is)
    (case b_abs => k_is)
    (case gR => k_is)
    (case rR => first | rfl | decide +kernel)
    (case gF => k_is)
    (case rF => first | rfl | decide +kernel)
    (case gZ => k_is)
    (case rZ => first | rfl | decide +kernel)
