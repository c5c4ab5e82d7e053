import PyProof.Rows.All
import Wide.All
import OpenK.AllK
import Wide.FinOn
import HandS.ForMost
import HandS.ForExc
import HandS.ExcField
import HandS.ExcInit
import HandS.DictComp
import HandS.Lambda
import HandS.IsInst
import HandS.MakeKwOnly
import HandS.EndTab
import HandS.EndOwn
import HandS.More
import PyProof.NeKinds
import HandS.ExcIs
import HandS.ExcOwn
import HandS.ExcValue
import KE.KExcStr
import KE.KExcIs
import KE.KDictOf
import PyProof.DictUpdate
import PyProof.Tail
import HandS.NoneIn
import HandS.SortInts
import HandS.SetFor
import HandS.Strs
import KE.KDictCopyH
import HandS.DictEq
import HandS.Walk
import HandS.Conv
import HandS.DictTup
import HandS.SetKeys
import HandS.TupAny
import PySem.Challenge.RW_pageclass_k05_gaps
set_option Elab.async false
set_option linter.all false
set_option maxRecDepth 100000
set_option maxHeartbeats 4000000
namespace L2
open PySem PySem.Spec PyProof.Rows
section
variable {X : Cx}
/-- an expression that no way reaches -/
theorem pe_nev {e : Expr} : PE X e (fun _ _ _ => False) := ⟨fun _ _ _ _ _ _ z => z.elim⟩
theorem pts_nev {es : List Expr} : PTs X es (fun _ _ _ => False) := ⟨fun _ _ _ _ _ _ z => z.elim⟩
end
/-- the ends of a suite whose name is in slot i: behind it the slot is empty -/
def clr (i : Nat) (D : Ends) : Ends where
  nx := fun σ' H' => D.nx (σ'.set i none) H'
  rt := D.rt
  bk := fun σ' H' => D.bk (σ'.set i none) H'
  ct := fun σ' H' => D.ct (σ'.set i none) H'
/-- a clause: its class, the slot of its name, its suite -/
abbrev Cls1 := Value × Option Nat × (Addr → Value → Option Addr → TS)
def suiteT (c : Cls1) (a : Addr) (cls : Value) (d : Option Addr) : TS := fun D σ H => match c.2.1 with
  | none => c.2.2 a cls d D σ H
  | some i => c.2.2 a cls d (clr i D) (σ.set i (some (.ref a))) H
def wCls (K : PySem.W.Frag) (Wo : WX) (D : Ends) : List Cls1 → WX
  | [] => Wo
  | c :: r => fun cls d σ H => ∃ b, PySem.W.exmOne K cls c.1 = some b ∧
      (b = true → ∀ a, H a = none → suiteT c a cls d D σ H) ∧ (b = false → wCls K Wo D r cls d σ H)
inductive ClsOk (X : Cx) : List ExceptHandler → List Cls1 → Prop
  | nil : ClsOk X [] []
  | bare {x : Str} {c : Value} {ts : Addr → Value → Option Addr → TS} {b0 : Stmt} {su : List Stmt} {p1 p2 : Pos} {hs : List ExceptHandler} {l : List Cls1}
      (hc : Names X x c)
      (hsu : ∀ (a : Addr) (oe : Obj) (cls : Value) (d : Option Addr) (pn : List (Addr × Obj)), Zc cls d oe →
        (∃ vs, oe.data = .fields vs) → PSs (X.suite a ((a, oe) :: pn)) (b0 :: su) (ts a cls d)) (r : ClsOk X hs l) :
      ClsOk X (.ExceptHandler (some (.Name x p1)) none (b0 :: su) p2 :: hs) ((c, none, ts) :: l)
  | named {x n : Str} {i : Nat} {c : Value} {ts : Addr → Value → Option Addr → TS} {b0 : Stmt} {su : List Stmt} {p1 p2 : Pos} {hs : List ExceptHandler} {l : List Cls1}
      (hc : Names X x c) (hi : X.N[i]? = some n) (hl : X.env.kindOf n = some .local)
      (hsu : ∀ (a : Addr) (oe : Obj) (cls : Value) (d : Option Addr) (pn : List (Addr × Obj)), Zc cls d oe →
        (∃ vs, oe.data = .fields vs) → PSs (X.suite a ((a, oe) :: pn)) (b0 :: su) (ts a cls d)) (r : ClsOk X hs l) :
      ClsOk X (.ExceptHandler (some (.Name x p1)) (some n) (b0 :: su) p2 :: hs) ((c, some i, ts) :: l)
section
variable {X : Cx} {body : List Stmt} {h0 : ExceptHandler} {hds : List ExceptHandler} {l : List Cls1} {pos : Pos} {tb : WX → TS} {Wo : WX}
theorem ps_try_cls (hs : X.stack = X.env :: X.outer) (hf : X.env.frame = some X.env.locals) (hN : X.N.Nodup) (tk : Takes X Wo)
    (hb : ∀ (W : WX) (pn : List (Addr × Obj)) (xe : Value → Shared → Prop), Takes (X.tr pn xe) W →
      PassesOwn (model X.prog X.w) X.A X.env xe → PSs (X.tr pn xe) body (tb W))
    (hh : ClsOk X (h0 :: hds) l) :
    PS X (.Try body (h0 :: hds) [] [] pos) (fun D σ H => tb (wCls X.K Wo D l) D σ H) := by
  refine ⟨fun pins s σ H D I h => ?_⟩
  have okX := I.ok
  have fr : X.A.frames = some (X.env :: X.outer) := by rw [okX.frames, hs]
  refine wpAny_Try_except ?_
  refine wpAny_mono ((hb (wCls X.K Wo D l) (X.pn ++ pins)
    (fun e s1 => wpAny (model X.prog X.w) X.A (noteFrame e X.env)
      (fun _ s2 => wpAny (model X.prog X.w) X.A (setFlight e none)
        (fun _ s3 => wpAny (model X.prog X.w) X.A (handleBy e X.env (h0 :: hds)) (SP X pins D) X.xe s3) X.xe s2) X.xe s1)
    (fun u s' air => ?c1) PassesOwn.looking).run [] s σ H D (I.toTry _) h) (fun f s1 hsp => ?c2) (fun _ _ z => z)
  case c1 =>
    obtain ⟨a, B, sI, pq, σ', H', cls, d, rfl, Jt, nb, up, sky, na, os, ag, w⟩ := air
    have J : Inv X pins σ' H' sI := Jt.ofTry okX
    have sk : Sky B (X.env :: X.outer) a (Zc cls d) X.env.locals s'.heap := by
      rw [← hs]
      exact sky
    show wpAny (model X.prog X.w) X.A (noteFrame (.ref a) X.env) _ _ _
    refine Sky.land Zc.steady fr hf sk fun hA flA upA => ?_
    have JA : Inv X pins σ' H' { s' with heap := hA } := J.landed nb flA.1 (up.trans upA) os ag
    obtain ⟨oA, vA, atA, zA, dA⟩ := flA.there
    have far : a ∉ frs (X.env :: X.outer) := fun hm => by
      obtain ⟨_, o', e', hnf⟩ := flA.2.2.1.mem hm
      rw [atA] at e'
      cases e'
      exact hnf _ dA
    have nL : a ≠ X.env.locals := fun z => far (List.mem_filterMap.mpr ⟨X.env, List.mem_cons_self, by rw [hf, z]⟩)
    have nF : a ∉ X.fs := fun hm => by
      obtain ⟨e, he, q⟩ := List.mem_filterMap.mp hm
      exact far (List.mem_filterMap.mpr ⟨e, List.mem_cons_of_mem _ he, q⟩)
    have SA := JA.suite atA dA na nL nF
    -- the test of a clause
    have test : ∀ {x : Str} {c : Value} {np : Pos} {Q E : Value → Shared → Prop}, Names X x c → Q c { s' with heap := hA } →
        wpAny (model X.prog X.w) (X.A.mark (some (.ref a))) (eval (.Name x np) X.env) Q E { s' with heap := hA } := fun hc q => by
      obtain ⟨hg, hdbg, hm | ⟨hm, hv, hnn⟩⟩ := hc
      · exact ld_glob (X := X.suite a ((a, oA) :: (X.pn ++ pins))) SA hg hm q hdbg
      · exact ld_blt (X := X.suite a ((a, oA) :: (X.pn ++ pins))) SA hg hm hv q hnn hdbg
    have look : PySem.W.Looks (model X.prog X.w) hA (typeOf (.ref a)) cls := fun A Q E s k q =>
      wpAny_typeOf_ref (k _ _ atA) (by rw [zA.1]; exact q)
    have go : ∀ {hs' : List ExceptHandler} {l' : List Cls1}, ClsOk X hs' l' → wCls X.K Wo D l' cls d σ' H' →
        wpAny (model X.prog X.w) X.A (handleBy (.ref a) X.env hs') (SP X pins D) X.xe { s' with heap := hA } := by
      intro hs' l' hk
      induction hk with
      | nil =>
        intro w
        refine wpAny_handleBy_nil ?_
        obtain ⟨_, _, _, oe, vs, T, oT, ts', he, hz, hd, h1, hr⟩ := id flA
        unfold PySem.passOn
        refine wpAny_bind (wpAny_field he hd h1 ?_)
        rw [if_neg (show ¬ ((Value.ref T == Value.none) = true) by simp)]
        have fin : wpAny (model X.prog X.w) X.A (setFlight (.ref a) X.env.frame)
            (fun _ s4 => wpAny (model X.prog X.w) X.A (throw (.ref a) : Sem Flow) (SP X pins D) X.xe s4) X.xe { s' with heap := hA } := by
          rw [hf]
          exact HandSPX.setFlight_upZ flA fun h4 hh4 up4 => wpAny_throw (tk _ _
            ⟨a, B, sI, pins, σ', H', cls, d, rfl, J, nb, (up.trans upA).trans up4, .inr (.inr (by rw [hs]; exact hh4)), na, os, ag, w⟩)
        first
          | exact wpAny_bind (wpAny_pure (wpAny_bind fin))
          | exact wpAny_bind fin
      | @bare x c ts b0 su p1 p2 hs2 l2 hc hsu r ih =>
        intro w
        obtain ⟨b, m, yes, no⟩ := w
        refine wpAny_handleBy_cons (codeAny_handlers_test ?_) (by intro q; cases q)
        have LM := PySem.W.exm_one (M := model X.prog X.w) JA.kIn look m
        refine test hc (LM.here ?_)
        cases b with
        | false => exact ih (no rfl)
        | true =>
          refine codeAny_handlers_suite (HandSPX.lands_againZ flA fun hB flB upB => ?_)
          have JB : Inv X pins σ' H' { s' with heap := hB } := J.landed nb flB.1 ((up.trans upA).trans upB) os ag
          obtain ⟨oB, vB, atB, zB, dB⟩ := flB.there
          have SB := JB.suite atB dB na nL nF
          refine wpAny_mono ((hsu a oB cls d (X.pn ++ pins) zB ⟨_, dB⟩).run [] _ _ H' _ SB (yes rfl a na)) (fun f s6 hsp => ?_) (fun _ _ z => z.elim)
          cases f with
          | ret u =>
            obtain ⟨v6, σ6, H6, S6, r6, q6⟩ := hsp
            exact ⟨_, _, _, S6.unsuite okX, r6, q6⟩
          | next =>
            obtain ⟨σ6, H6, S6, q6⟩ := hsp
            exact ⟨_, _, S6.unsuite okX, q6⟩
          | brk =>
            obtain ⟨σ6, H6, S6, q6⟩ := hsp
            exact ⟨_, _, S6.unsuite okX, q6⟩
          | cont =>
            obtain ⟨σ6, H6, S6, q6⟩ := hsp
            exact ⟨_, _, S6.unsuite okX, q6⟩
      | @named x n i c ts b0 su p1 p2 hs2 l2 hc hi hl hsu r ih =>
        intro w
        obtain ⟨b, m, yes, no⟩ := w
        refine wpAny_handleBy_cons (codeAny_handlers_test ?_) (by intro q; cases q)
        have LM := PySem.W.exm_one (M := model X.prog X.w) JA.kIn look m
        refine test hc (LM.here ?_)
        cases b with
        | false => exact ih (no rfl)
        | true =>
          refine codeAny_handlers_suite_as (HandSPX.lands_againZ flA fun hB flB upB => ?_)
          have JB : Inv X pins σ' H' { s' with heap := hB } := J.landed nb flB.1 ((up.trans upA).trans upB) os ag
          obtain ⟨oB, vB, atB, zB, dB⟩ := flB.there
          have SB := JB.suite atB dB na nL nF
          refine store_ok (X := X.suite a ((a, oB) :: (X.pn ++ pins))) (v := .ref a) SB hN hi (.inl hl) rfl (fun s5 S5 => ?_) (.inr hl)
          refine wpAny_mono ((hsu a oB cls d (X.pn ++ pins) zB ⟨_, dB⟩).run [] s5 _ H' _ S5 (yes rfl a na)) (fun f s6 hsp => ?_) (fun _ _ z => z.elim)
          have off : ∀ {σ6 : St} {H6 : Hp} {Q : Shared → Prop}, Inv (X.suite a ((a, oB) :: (X.pn ++ pins))) [] σ6 H6 s6 →
              (∀ s7, Inv X pins (σ6.set i none) H6 s7 → Q s7) →
              wpAny (model X.prog X.w) X.A (do bindName X.env n .none; unbindBehindTheSuite X.env n p2) (fun _ s7 => Q s7) X.xe s6 :=
            fun S6 hq => gone_ok (S6.unsuite okX) hN hi hl hq
          cases f with
          | ret u =>
            obtain ⟨v6, σ6, H6, S6, r6, q6⟩ := hsp
            exact off S6 fun s7 J7 => ⟨_, _, _, J7, r6, q6⟩
          | next =>
            obtain ⟨σ6, H6, S6, q6⟩ := hsp
            exact off S6 fun s7 J7 => ⟨_, _, J7, q6⟩
          | brk =>
            obtain ⟨σ6, H6, S6, q6⟩ := hsp
            exact off S6 fun s7 J7 => ⟨_, _, J7, q6⟩
          | cont =>
            obtain ⟨σ6, H6, S6, q6⟩ := hsp
            exact off S6 fun s7 J7 => ⟨_, _, J7, q6⟩
    exact go hh w
  case c2 =>
    cases f with
    | ret u =>
      obtain ⟨v, σ', H', J', r, q⟩ := hsp
      exact ⟨v, σ', H', J'.ofTry okX, r, q⟩
    | next =>
      obtain ⟨σ', H', J', q⟩ := hsp
      exact wpAny_execs_nil ⟨σ', H', J'.ofTry okX, q⟩
    | brk =>
      obtain ⟨σ', H', J', q⟩ := hsp
      exact ⟨σ', H', J'.ofTry okX, q⟩
    | cont =>
      obtain ⟨σ', H', J', q⟩ := hsp
      exact ⟨σ', H', J'.ofTry okX, q⟩
end
section
variable {X : Cx}
/-- a value of which == with itself is known: by value, or by the object -/
def selfEq : V → Bool
  | .ref _ => true
  | v => flatB v
theorem selfEq_at {A : Around} {s : Shared} {v : V} {u u' : Value} (r : RelV v u) (r' : RelV v u') (f : selfEq v = true) : SeqAt.EqAt A s u u' true := by
  cases v with
  | ref a =>
    cases (show u = Value.ref a from r)
    cases (show u' = Value.ref a from r')
    exact SeqAt.EqAt.same _
  | _ => exact eqAt_same r r' f
theorem selfEq_all {A : Around} {s : Shared} : ∀ {xs : List V} {us ws : List Value}, Vals xs us → Vals xs ws → xs.all selfEq = true →
    ∀ j (h1 : j < us.length) (h2 : j < ws.length), SeqAt.EqAt A s us[j] ws[j] true
  | _, _, _, .nil, .nil, _, j, h1, _ => absurd h1 (Nat.not_lt_zero j)
  | _, _, _, .cons a1 b1, .cons a2 b2, f, j, h1, h2 => by
    rw [List.all_cons, Bool.and_eq_true] at f
    cases j with
    | zero => exact selfEq_at a1 a2 f.1
    | succ j => exact selfEq_all b1 b2 f.2 j (Nat.lt_of_succ_lt_succ h1) (Nat.lt_of_succ_lt_succ h2)
def rTupS (K : PySem.W.Frag) (b : Bool) : R2 := fun x y H Q => ∃ p q xs, x = .ref p ∧ y = .ref q ∧ SqT K H p xs ∧ SqT K H q xs ∧ xs.all selfEq = true ∧ Q (.bl b) H
theorem op_neTupS (hu : X.A.units < cLine) : OpR X (compareOp .NotEq) (rTupS X.K false) := by
  intro pins s σ H x y v u Q I rx ry h
  obtain ⟨p, q, xs, rfl, rfl, h1, h2, f, z⟩ := h
  cases (show v = Value.ref p from rx)
  cases (show u = Value.ref q from ry)
  obtain ⟨us, r1, p1, _⟩ := I.tuple h1
  obtain ⟨ws, r2, p2, _⟩ := I.tuple h2
  have e := SeqAt.RcNeAt.tuples (A := X.A) (s := s) (e := fun _ => true) p1 p2 hu fun j a b => by
    have k := selfEq_all (A := X.A.in1) (s := s) r1 r2 f j (by simpa using a) (by simpa using b)
    simpa using k
  refine e X.prog X.w _ _ ?_
  have l : us.length = ws.length := r1.length.symm.trans r2.length
  have z' : (!((List.range (min us.toArray.size ws.toArray.size)).all (fun _ => true) && us.toArray.size == ws.toArray.size)) = false := by
    rw [show ((List.range (min us.toArray.size ws.toArray.size)).all fun _ => true) = true from List.all_eq_true.mpr fun _ _ => rfl]
    simp [l]
  rw [z']
  exact ⟨.bl false, H, I, rfl, z⟩
end
structure FunC (K : PySem.W.Frag) (x qual : Str) (st : Stmt) (f : Addr) (fd : FuncData) (co : Addr) : Prop where
  ex : ∃ (oc : Value) (od : Option Addr) (kV doc pm : Value) (an : Option Addr) (ct : Value) (osl : Array (Option Value)),
    fd = PySem.W.fnOf x qual (defArgs st) (defBody st) (defScope st) .none kV doc pm an (.ref co) ct ∧
      K.lookup f = some ⟨oc, od, .func fd, osl⟩ ∧ PySem.W.codeIn K (.ref co) qual = true
theorem FunC.ok {P : Program} {w : World} {K : PySem.W.Frag} {mg : Str → Option Value} {base : Heap} {x qual : Str} {st : Stmt} {f co : Addr} {fd : FuncData} {N ps : List Str} {k : Nat} {sp : Sp}
    (F : FunC K x qual st f fd co) (S : FnScope N ps (defScope st)) (len : ∀ vs H Q E, sp vs H Q E → vs.length = ps.length)
    (hbody : ∀ (A : Around) (outer : List Env) (s : Shared) (H : Hp) (vs : List V) (Q : VK) (E : XK),
      Room k (A.deeper (envOfC qual (defScope st) s.heap.objs.size f (.ref co))) → sp vs H Q E →
      ∃ t, PSs (cxOf CX0 P w K mg base N qual (defScope st) f (.ref co) A outer s H E).nox (defBody st) t ∧
        t { nx := fun _ H' => Q .non H', rt := Q } (L2.start N vs) H) : FnOk P w K mg base CX0 (k + 1) f fd ps sp := by
  obtain ⟨oc, od, kV, doc, pm, an, ct, osl, rfl, lk, hcd⟩ := F.ex
  refine fn_of lk hcd S len fun A outer s H vs Q E hr hsp => ?_
  obtain ⟨t, h, q⟩ := hbody A outer s H vs Q E hr hsp
  exact ⟨t, h.nox, q⟩
open LamX in
theorem Tabs.keep {T : List (Addr × Str)} {H H' : Hp} (t : Tabs T H) (h : ∀ b o, H b = some o → (∀ u, o = .ext u → H' b = some o) ∧ (∀ ps, o = .tbl ps → H' b = some o)) : Tabs T H' := fun p hp => by
  obtain ⟨ps, h1, h2, h3⟩ := t p hp
  refine ⟨ps, (h _ _ h1).2 _ rfl, h2, fun pos cv hc => ?_⟩
  obtain ⟨c, e1, e2⟩ := h3 pos cv hc
  exact ⟨c, e1, (h _ _ e2).1 _ rfl⟩
end L2
set_option Elab.async false
set_option linter.all false
set_option maxRecDepth 100000
set_option maxHeartbeats 4000000
namespace L2
open PySem PySem.Spec PyProof.Rows
end L2
set_option Elab.async false
set_option linter.all false
set_option maxRecDepth 100000
set_option maxHeartbeats 4000000
namespace L2
open PySem PySem.Spec PyProof.Rows
section
variable {prog : Program} {w : World} {A : Around} {E : Value → Shared → Prop} {s : Shared}
/-- one pair put -/
theorem put_one {d : Addr} {kvs : List (Key × Value)} {k : Key} {key v : Value} {Q : Unit → Shared → Prop} (isK : (mixKind prog w).is k key = true) (at_ : s.heap.DictOf (mixKind prog w) d kvs) (few : kvs.length ≤ sizeLine)
    (then_ : ∀ h', h'.DictOf (mixKind prog w) d (stored kvs k v) → Heap.SameBut d s.heap h' → Q () { s with heap := h' }) :
    wpAny (model prog w) A (dictPut d ((mixKind prog w).hash k) key v) Q E s := by
  rcases at_ with ⟨ob, ents, epoch, here, exact_, data, keys, pairs, nodup⟩
  have small : ents.size ≤ sizeLine := by
    have z := pairs.length
    rw [Array.length_toList] at z
    omega
  unfold dictPut
  refine wpAny_bind (wpAny_dictFind_of isK here data keys ?_)
  have same : (ents.findIdx? fun x => (mixKind prog w).is k x.key) = kvs.findIdx? fun kv => decide (kv.1 = k) := by
    rw [← pairs.findIdx k]
    cases ents
    simp
  cases found : ents.findIdx? fun x => (mixKind prog w).is k x.key with
  | some i =>
    have isIn := any_of_findIdx_some (same ▸ found)
    refine wpAny_updateDict here data (then_ _ ⟨_, _, epoch, Heap.get?_update_self _ here (Obj.isFreed_of_dict (Obj.data_mapDict data _)), exact_.mapDict _, Obj.data_mapDict data _, keys.modify _ _, ?_, ?_⟩ (Heap.SameBut.update ..))
    · have z : (ents.toList.findIdx? fun x => (mixKind prog w).is k x.key) = some i := by
        rw [← found]
        cases ents
        simp
      have y := pairs.modify nodup z v
      rw [stored, if_pos isIn]
      cases ents
      simpa using y
    · rw [stored, if_pos isIn, keys_map_store]
      exact nodup
  | none =>
    have out := not_mem_of_findIdx_none (same ▸ found)
    have isOut : ¬ (kvs.any fun kv => decide (kv.1 = k)) = true := fun z => by
      obtain ⟨kv, m, e⟩ := List.any_eq_true.mp z
      exact out (List.mem_map.mpr ⟨kv, m, of_decide_eq_true e⟩)
    refine wpAny_updateDictKeys (hz := small) here data (then_ _ ⟨_, _, epoch + 1, Heap.get?_update_self _ here (Obj.isFreed_of_dict (Obj.data_mapDictKeys data _)), exact_.mapDictKeys _, Obj.data_mapDictKeys data _, keys.push isK _, ?_, ?_⟩ (Heap.SameBut.update ..))
    · have y := pairs.append isK ((mixKind prog w).hash k) v
      rw [stored, if_neg isOut]
      cases ents
      simpa using y
    · rw [stored, if_neg isOut, List.map_append]
      refine List.nodup_append.mpr ⟨nodup, by simp, fun x hx y hy => ?_⟩
      have : y = k := by simpa using hy
      rw [this]
      exact fun z => out (z ▸ hx)
/-- all pairs of the dict at o put into the one at d -/
theorem merge_all {d o : Addr} {kvs more : List (Key × Value)} {Q : Unit → Shared → Prop} (ne : d ≠ o) (no : (o == sysModules) = false) (atD : s.heap.DictOf (mixKind prog w) d kvs) (atO : s.heap.DictOf (mixKind prog w) o more)
    (few : kvs.length + more.length ≤ sizeLine) (then_ : ∀ h', h'.DictOf (mixKind prog w) d (merged kvs more) → Heap.SameBut d s.heap h' → Q () { s with heap := h' }) :
    wpAny (model prog w) A (mergeMapping d (.ref o) false) Q E s := by
  rcases id atD with ⟨obD, entsD, epochD, hereD, exactD, dataD, keysD, pairsD, nodupD⟩
  rcases id atO with ⟨obO, entsO, epochO, hereO, exactO, dataO, keysO, pairsO, nodupO⟩
  have len : more.length = entsO.size := by
    rw [← pairsO.length]
    simp
  unfold mergeMapping
  refine wpAny_bind (wpAny_isInstance atO.typeIs isSubtype_dict_dict ?_)
  rw [if_pos rfl]
  refine wpAny_bind (wpAny_specialOf atO.typeIs F.slot_dict_iter.lookup ?_)
  refine wpAny_bind (wpAny_pure ?_)
  simp only [beq_self_eq_true]
  rw [if_neg (by rw [no]; exact Bool.false_ne_true)]
  refine wpAny_bind (wpAny_dictEntries hereD dataD ?_)
  -- the walk
  have walk : wpAny (model prog w) A (do
      let l ← dictEntries o
      let epoch ← dictEpoch o
      forIn (List.range l.size) PUnit.unit fun i (_ : PUnit) => (do
        let l' ← dictEntries o
        match l'[i]? with
          | some e => do
            holding [e.key, e.val] (dictPut d e.hash e.key e.val)
            let ep' ← dictEpoch o
            if (ep' != epoch) = true then do
                (unsupported "dict.changed-during-merge" : Sem PUnit)
                pure (ForInStep.yield PUnit.unit)
              else pure (ForInStep.yield PUnit.unit)
          | _ => do
            (unsupported "dict.changed-during-merge" : Sem PUnit)
            pure (ForInStep.yield PUnit.unit) : Sem (ForInStep PUnit))
      pure ()) Q E s := by
    refine wpAny_bind (wpAny_dictEntries hereO dataO (wpAny_bind (wpAny_dictEpoch hereO dataO (wpAny_bind ?_))))
    refine wpAny_forIn_list _
      (fun rest _ s' => ∃ h' i, s' = { s with heap := h' } ∧ rest = List.range' i (entsO.size - i) ∧ i ≤ entsO.size ∧ h'.DictOf (mixKind prog w) d (merged kvs (more.take i)) ∧ h'.get? o = some obO ∧ Heap.SameBut d s.heap h')
      _ ?_ ?_ _ _ ⟨s.heap, 0, rfl, by rw [List.range_eq_range', Nat.sub_zero], Nat.zero_le _, by simpa [merged] using atD, hereO, Heap.SameBut.refl _ _⟩
    · rintro x rest _ _ ⟨h', i, rfl, er, le, atD', hereO', sb⟩
      have lt : i < entsO.size := by
        by_cases z : i < entsO.size
        · exact z
        · rw [show entsO.size - i = 0 by omega] at er
          cases er
      rw [show entsO.size - i = (entsO.size - (i + 1)) + 1 by omega, List.range'_succ] at er
      injection er with e1 e2
      subst e1 e2
      refine wpAny_bind (wpAny_dictEntries hereO' dataO ?_)
      rw [Array.getElem?_eq_getElem lt]
      obtain ⟨⟨k, v⟩, pair⟩ : ∃ kv, more[x]? = some kv := ⟨more[x]'(by rw [len]; exact lt), List.getElem?_eq_getElem _⟩
      obtain ⟨isK, isV⟩ := pairsO.get? (e := entsO[x]) (by simp [lt]) pair
      obtain ⟨k', isK', hash⟩ := keysO entsO[x] (Array.getElem_mem lt)
      have ek : k' = k := (mixKind prog w).inj _ _ _ isK' isK
      subst ek
      show wpAny _ _ (holding [entsO[x].key, entsO[x].val] (dictPut d entsO[x].hash entsO[x].key entsO[x].val) >>= _) _ _ _
      rw [hash, isV]
      have few' : (merged kvs (more.take x)).length ≤ sizeLine := by
        have z := merged_length_le kvs (more.take x)
        rw [List.length_take] at z
        omega
      refine wpAny_bind (wpAny_holding (put_one isK atD' few' fun h'' atD'' sb' => ?_))
      have hereO'' := (sb'.2 o (Ne.symm ne)).trans hereO'
      refine wpAny_bind (wpAny_dictEpoch hereO'' dataO ?_)
      rw [if_neg (by simp)]
      exact wpAny_pure ⟨h'', x + 1, rfl, rfl, lt, by rw [merged_take_succ kvs more x (k', v) pair]; exact atD'', hereO'', sb.trans sb'⟩
    · rintro _ _ ⟨h', i, rfl, er, le, atD', hereO', sb⟩
      have ei : i = more.length := by
        by_cases z : i < entsO.size
        · rw [show entsO.size - i = (entsO.size - (i + 1)) + 1 by omega, List.range'_succ] at er
          cases er
        · omega
      rw [ei, List.take_length] at atD'
      exact wpAny_pure (then_ h' atD' sb)
  split
  · refine wpAny_bind (wpAny_dictEntries hereO dataO (wpAny_bind ?_))
    refine wpAny_forIn_array' _ (fun rest _ s' => s' = s ∧ ∀ x ∈ rest, x ∈ entsO) _ ?_ ?_ _ _ ⟨rfl, fun x hx => by simpa using hx⟩
    · rintro x rest _ _ ⟨rfl, mem⟩
      obtain ⟨k, isK, _⟩ := keysO x (mem x List.mem_cons_self)
      have go : ∀ {v : Value}, (mixKind prog w).is k v = true → ∀ a, v ≠ .ref a := fun {v} z a e => by
        rcases keyIs_shape z with ⟨i, t, _, y⟩ | ⟨i, t, _, y⟩ <;> rw [e] at y <;> cases y
      split
      · rename_i a ea
        exact absurd ea (go isK a)
      · exact wpAny_pure ⟨rfl, fun y hy => mem y (List.mem_cons_of_mem _ hy)⟩
    · rintro _ _ ⟨rfl, _⟩
      exact walk
  · exact walk
end
section
variable {X : Cx} {e1 e2 : Expr} {pos : Pos} {t1 t2 : TE}
/-- {**a, **b} -/
def tStar2 (t1 t2 : TE) : TE := fun σ H Q => ∀ p, H p = none → t1 σ (upd H p (.dK [])) fun x H1 => ∃ a ks, x = .ref a ∧ a ≠ p ∧ H1 a = some (.dK ks) ∧ H1 p = some (.dK []) ∧
  t2 σ (upd H1 p (.dK (mergeK [] ks))) fun y H2 => ∃ b ls, y = .ref b ∧ b ≠ p ∧ H2 b = some (.dK ls) ∧ H2 p = some (.dK (mergeK [] ks)) ∧ ks.length + ls.length ≤ sizeLine ∧ Q (.ref p) (upd H2 p (.dK (mergeK (mergeK [] ks) ls)))
/-- the dict at a merged into the one at p -/
theorem in_one {pins : List (Addr × Obj)} {σ : St} {H : Hp} {s : Shared} {Q : Unit → Shared → Prop} {E : Value → Shared → Prop} {a p : Addr} {ks ls : List (Key × V)} (I : Inv X pins σ H s) (ea : H a = some (.dK ls)) (ep : H p = some (.dK ks)) (ne : a ≠ p) (few : ks.length + ls.length ≤ sizeLine)
    (then_ : ∀ s', Inv X pins σ (upd H p (.dK (mergeK ks ls))) s' → Q () s') : wpAny (model X.prog X.w) X.A (mergeMapping p (.ref a) false) Q E s := by
  obtain ⟨z1, n1, vs, k1, d1⟩ := dk_of I.hok ea
  obtain ⟨z2, n2, us, k2, d2⟩ := dk_of I.hok ep
  have l1 : ls.length = vs.length := Paired.length k1
  have l2 : ks.length = us.length := Paired.length k2
  refine merge_all (Ne.symm ne) n1 d2 d1 (by omega) fun h' dd sb => then_ _ ?_
  have some_ : ∃ q, h'.get? p = some q := let ⟨q, _, _, hq, _⟩ := dd; ⟨q, hq⟩
  exact d_write I (by rw [ep]; exact True.intro) sb some_ (dk_new (by have := length_mergeK ls ks; omega) n2 (k1.merge k2) dd)
theorem tried {A : Around} {M : Model} {s : Shared} {m : Sem Unit} {k1 k2 k3 : Value → Sem Unit} {Q : Unit → Shared → Prop} {E : Value → Shared → Prop} (h : ∀ E', wpAny M A m Q E' s) : wpAny M A (((m.onRaise k1).tryCatch k2).onRaise k3) Q E s :=
  wpAny_onRaise (wpAny_tryCatch (wpAny_onRaise (h _)))
theorem pe_star2 (h1 : PE X e1 t1) (h2 : PE X e2 t2) : PE X (.Dict [none, none] [e1, e2] pos) (tStar2 t1 t2) := by
  constructor
  intro pins s σ H Q I wish
  rw [arm_eval_Dict]
  refine wpAny_bind (wpAny_standAt ?_)
  show wpAny _ _ (dictDisplay [(none, do let x ← eval e1 X.env; standAt pos; pure x), (none, do let x ← eval e2 X.env; standAt pos; pure x)]) _ _ s
  unfold dictDisplay
  simp only [List.forIn_cons, List.forIn_nil, List.isEmpty_nil, if_true, pure_bind, bind_assoc]
  have free := I.hok.fresh (Nat.le_refl s.heap.objs.size)
  have I1 := I.laid (a := s.heap.objs.size) (o := .dK []) (h' := s.heap.push { cls := .type "dict", data := .dict #[] }) (t' := s.toks) (fun _ _ z => Heap.get?_push_of_some _ z) (Nat.le_refl _) (dk_empty s.heap I.big)
  refine wpAny_bind (wpAny_alloc (wpAny_bind (wpAny_holding (wpAny_bind (thn (h1.run pins _ σ _ _ I1 (wish _ free)) ?_)))))
  rintro u1 s1 ⟨x, H1, I2, r1, a, ks, rfl, na, ea, ep, w1⟩
  cases (show u1 = Value.ref a from r1)
  refine wpAny_bind (wpAny_standAt (wpAny_pure (wpAny_bind (tried fun E' => wpAny_holding (in_one I2 ea ep na ?_ fun s2 I3 => ?_)))))
  · obtain ⟨z1, _⟩ := dk_of I2.hok ea
    simpa using z1
  refine wpAny_bind (wpAny_holding (wpAny_bind (thn (h2.run pins _ σ _ _ I3 w1) ?_)))
  rintro u2 s3 ⟨y, H2, I4, r2, b, ls, rfl, nb, eb, ep2, few, w2⟩
  cases (show u2 = Value.ref b from r2)
  refine wpAny_bind (wpAny_standAt (wpAny_pure (wpAny_bind (tried fun E' => wpAny_holding (in_one I4 eb ep2 nb ?_ fun s4 I5 => wpAny_pure ⟨.ref _, _, I5, rfl, w2⟩)))))
  have := length_mergeK ks []
  simp at this
  omega
end
end L2
set_option Elab.async false
set_option linter.all false
set_option maxRecDepth 100000
set_option maxHeartbeats 4000000
namespace My
open PySem L2
theorem iteD {p : Prop} [Decidable p] {A B : Prop} (h1 : p → A) (h2 : ¬ p → B) : if decide p = true then A else B := by
  by_cases h : p
  · rw [decide_eq_true h, if_pos rfl]
    exact h1 h
  · rw [decide_eq_false h, if_neg Bool.false_ne_true]
    exact h2 h
theorem iteT {A B : Prop} (h : A) : if true = true then A else B := h
theorem iteF {A B : Prop} (h : B) : if false = true then A else B := h
theorem iteB {b : Bool} {A B : Prop} (h1 : b = true → A) (h2 : b = false → B) : if b = true then A else B := by
  cases b with
  | true => exact h1 rfl
  | false => exact h2 rfl
theorem upd_none {H : Hp} {a p : Addr} {o : HO} (h : upd H a o p = none) : p ≠ a ∧ H p = none := by
  by_cases e : p = a
  · subst e; rw [upd_same] at h; cases h
  · rw [upd_ne e] at h; exact ⟨e, h⟩
def But (a : Addr) (H H' : Hp) : Prop := ∀ b o, b ≠ a → H b = some o → H' b = some o
theorem Same.new {H : Hp} {p : Addr} {o : HO} (h : H p = none) : Same H (upd H p o) := fun b u e => by rw [upd_ne (ne_of_none e h)]; exact e
theorem But.of {a : Addr} {H H' : Hp} (h : Same H H') : But a H H' := fun b o _ e => h b o e
theorem But.up {a : Addr} {H : Hp} {o : HO} : But a H (upd H a o) := fun b u n e => by rw [upd_ne n]; exact e
theorem But.trans {a : Addr} {H H1 H2 : Hp} (x : But a H H1) (y : But a H1 H2) : But a H H2 := fun b o n e => y b o n (x b o n e)
theorem Same.free {H H' : Hp} (s : Same H H') {b : Addr} (h : H' b = none) : H b = none := by
  cases e : H b with
  | none => rfl
  | some o => rw [s b o e] at h; cases h
structure DI (kvs : List (Key × V)) (f : Int → Option V) : Prop where
  isI : ∀ kv ∈ kvs, ∃ i : Int, kv.1 = Sum.inl i
  nod : (kvs.map (·.1)).Nodup
  val : ∀ i : Int, valV kvs (Sum.inl i) = f i
theorem mem_put {kvs : List (Key × V)} {k : Key} {v : V} {q : Key × V} (h : q ∈ putK kvs k v) : q ∈ kvs ∨ q = (k, v) := by
  unfold putK at h
  split at h
  · obtain ⟨z, hz, e⟩ := List.mem_map.mp h
    split at e
    · rename_i ek
      rw [← e, ek]
      exact .inr rfl
    · rw [← e]
      exact .inl hz
  · rcases List.mem_append.mp h with z | z
    · exact .inl z
    · exact .inr (List.mem_singleton.mp z)
theorem val_mem {kvs : List (Key × V)} {k : Key} {v : V} (h : valV kvs k = some v) : (k, v) ∈ kvs := by
  unfold valV at h
  cases e : kvs.find? (fun kv => decide (kv.1 = k)) with
  | none => rw [e] at h; cases h
  | some q =>
    rw [e] at h
    have h1 := List.find?_some e
    have h2 := List.mem_of_find?_eq_some e
    have e1 : q.1 = k := by simpa using h1
    have e2 : q.2 = v := Option.some.inj h
    rw [← e1, ← e2]
    exact h2
theorem mem_val {kvs : List (Key × V)} (nd : (kvs.map (·.1)).Nodup) {k : Key} {v : V} (h : (k, v) ∈ kvs) : valV kvs k = some v := by
  induction kvs with
  | nil => cases h
  | cons q r ih =>
    rw [List.map_cons, List.nodup_cons] at nd
    rcases List.mem_cons.mp h with e | h
    · subst e
      exact valV_pos rfl
    · rw [valV_neg (fun e => nd.1 (List.mem_map.mpr ⟨(k, v), h, e.symm⟩))]
      exact ih nd.2 h
theorem val_drop (k j : Key) : ∀ kvs : List (Key × V), valV (dropK kvs k) j = if j = k then none else valV kvs j
  | [] => by
    show valV ([] : List (Key × V)) j = _
    split <;> rfl
  | q :: r => by
    have ih := val_drop k j r
    unfold dropK at ih ⊢
    rw [List.filter_cons]
    by_cases e : q.1 = k
    · rw [if_neg (by simp [e]), ih]
      by_cases z : j = k
      · rw [if_pos z, if_pos z]
      · rw [if_neg z, if_neg z, valV_neg (fun y => z (y.symm.trans e))]
    · rw [if_pos (by simp [e])]
      by_cases z : q.1 = j
      · rw [valV_pos z, if_neg (fun y => e (z.trans y)), valV_pos z]
      · rw [valV_neg z, ih]
        by_cases y : j = k
        · rw [if_pos y, if_pos y]
        · rw [if_neg y, if_neg y, valV_neg z]
theorem keys_put (kvs : List (Key × V)) (k : Key) (v : V) : (putK kvs k v).map (·.1) = if (valV kvs k).isSome = true then kvs.map (·.1) else kvs.map (·.1) ++ [k] := by
  have e := valV_any k kvs
  unfold putK
  rw [← e]
  split
  · rw [List.map_map]
    refine List.map_congr_left fun q _ => ?_
    show (if q.1 = k then (q.1, v) else q).1 = q.1
    split <;> rfl
  · rw [List.map_append]
    rfl
section
variable {kvs : List (Key × V)} {f : Int → Option V}
theorem DI.nil : DI [] (fun _ => none) := ⟨fun _ h => (nomatch h), List.nodup_nil, fun _ => rfl⟩
theorem DI.put (h : DI kvs f) (i : Int) (v : V) : DI (putK kvs (Sum.inl i) v) (fun j => if j = i then some v else f j) := by
  refine ⟨fun kv hkv => ?_, ?_, fun j => ?_⟩
  · rcases mem_put hkv with z | z
    · exact h.isI kv z
    · rw [z]; exact ⟨i, rfl⟩
  · rw [keys_put]
    split
    · exact h.nod
    · rename_i hn
      refine List.nodup_append.mpr ⟨h.nod, by simp, fun a ha b hb => ?_⟩
      rw [List.mem_singleton.mp hb]
      intro e
      obtain ⟨q, hq, eq⟩ := List.mem_map.mp ha
      refine hn ?_
      have : valV kvs (Sum.inl i) = some q.2 := mem_val h.nod (by rw [← e, ← eq]; exact hq)
      rw [this]
      rfl
  · rw [valV_put]
    by_cases e : j = i
    · rw [if_pos (by rw [e]), if_pos e]
    · rw [if_neg (fun z => e (Sum.inl.inj z)), if_neg e]
      exact h.val j
theorem DI.drop (h : DI kvs f) (i : Int) : DI (dropK kvs (Sum.inl i)) (fun j => if j = i then none else f j) := by
  refine ⟨fun kv hkv => h.isI kv (List.mem_filter.mp hkv).1, ?_, fun j => ?_⟩
  · exact h.nod.sublist (List.Sublist.map _ List.filter_sublist)
  · rw [val_drop]
    by_cases e : j = i
    · rw [if_pos (by rw [e]), if_pos e]
    · rw [if_neg (fun z => e (Sum.inl.inj z)), if_neg e]
      exact h.val j
theorem DI.cong {g : Int → Option V} (h : DI kvs f) (e : ∀ i, f i = g i) : DI kvs g := ⟨h.isI, h.nod, fun i => (h.val i).trans (e i)⟩
theorem DI.mem (h : DI kvs f) {i : Int} {v : V} (hm : ((Sum.inl i : Key), v) ∈ kvs) : f i = some v := by rw [← h.val]; exact mem_val h.nod hm
theorem DI.of_mem (h : DI kvs f) {q : Key × V} (hm : q ∈ kvs) : ∃ i : Int, q.1 = Sum.inl i ∧ f i = some q.2 := by
  obtain ⟨i, e⟩ := h.isI q hm
  exact ⟨i, e, h.mem (by rw [← e]; exact hm)⟩
/-- its keys as ints -/
def intsOf (kvs : List (Key × V)) : List Int := kvs.map fun q => match q.1 with
  | .inl i => i
  | .inr _ => 0
theorem DI.keys (h : DI kvs f) : kvs.map (·.1) = (intsOf kvs).map Sum.inl := by
  unfold intsOf
  rw [List.map_map]
  refine List.map_congr_left fun q hq => ?_
  obtain ⟨i, e⟩ := h.isI q hq
  show q.1 = Sum.inl (match q.1 with | .inl i => i | .inr _ => 0)
  rw [e]
theorem DI.nodI (h : DI kvs f) : (intsOf kvs).Nodup := by
  have := h.nod
  rw [h.keys] at this
  exact List.Pairwise.imp (fun hne e => hne (by rw [e])) (List.pairwise_map.mp this)
theorem DI.memI (h : DI kvs f) (i : Int) : i ∈ intsOf kvs ↔ (f i).isSome = true := by
  constructor
  · intro hi
    obtain ⟨q, hq, e⟩ := List.mem_map.mp hi
    obtain ⟨j, e1, e2⟩ := h.of_mem hq
    rw [e1] at e
    simp only at e
    subst e
    rw [e2]
    rfl
  · intro hi
    obtain ⟨v, ev⟩ := Option.isSome_iff_exists.mp hi
    have hm := val_mem ((h.val i).trans ev)
    exact List.mem_map.mpr ⟨_, hm, rfl⟩
theorem intsOf_length : (intsOf kvs).length = kvs.length := by unfold intsOf; rw [List.length_map]
end
theorem le_lt {ys : List Int} (h : ys.Pairwise (· ≤ ·)) (nd : ys.Nodup) : ys.Pairwise (· < ·) := by
  have h2 : ys.Pairwise (fun a b => a ≤ b ∧ a ≠ b) := h.and nd
  exact h2.imp fun {a b} z => by omega
theorem lt_uniq : ∀ {xs ys : List Int}, xs.Pairwise (· < ·) → ys.Pairwise (· < ·) → (∀ i, i ∈ xs ↔ i ∈ ys) → xs = ys
  | [], [], _, _, _ => rfl
  | [], y :: ys, _, _, h => absurd ((h y).mpr List.mem_cons_self) (by simp)
  | x :: xs, [], _, _, h => absurd ((h x).mp List.mem_cons_self) (by simp)
  | x :: xs, y :: ys, h1, h2, h => by
    obtain ⟨a1, a2⟩ := List.pairwise_cons.mp h1
    obtain ⟨b1, b2⟩ := List.pairwise_cons.mp h2
    have e : x = y := by
      rcases List.mem_cons.mp ((h x).mp List.mem_cons_self) with z | z
      · exact z
      · have := b1 x z
        rcases List.mem_cons.mp ((h y).mpr List.mem_cons_self) with w | w
        · exact w.symm
        · have := a1 y w
          omega
    subst e
    rw [lt_uniq a2 b2 fun i => ?_]
    constructor
    · intro hi
      have l := a1 i hi
      rcases List.mem_cons.mp ((h i).mp (List.mem_cons_of_mem _ hi)) with z | z
      · omega
      · exact z
    · intro hi
      have l := b1 i hi
      rcases List.mem_cons.mp ((h i).mpr (List.mem_cons_of_mem _ hi)) with z | z
      · omega
      · exact z
/-- the numbers below n with a property, ascending -/
def upTo (n : Nat) (p : Int → Bool) : List Int := ((List.range n).map fun (j : Nat) => (j : Int)).filter p
theorem upTo_lt (n : Nat) (p : Int → Bool) : (upTo n p).Pairwise (· < ·) := by
  unfold upTo
  refine List.Pairwise.filter _ (List.pairwise_map.mpr ?_)
  exact List.pairwise_lt_range.imp fun {a b} h => by omega
theorem upTo_mem {n : Nat} {p : Int → Bool} {i : Int} : i ∈ upTo n p ↔ (0 ≤ i ∧ i < n) ∧ p i = true := by
  unfold upTo
  rw [List.mem_filter]
  refine and_congr_left fun _ => ?_
  rw [List.mem_map]
  constructor
  · rintro ⟨j, hj, rfl⟩
    have := List.mem_range.mp hj
    omega
  · rintro ⟨h0, h1⟩
    exact ⟨i.toNat, List.mem_range.mpr (by omega), by omega⟩
theorem upTo_length (n : Nat) (p : Int → Bool) : (upTo n p).length ≤ n := by
  unfold upTo
  have := List.length_filter_le p ((List.range n).map fun (j : Nat) => (j : Int))
  rw [List.length_map, List.length_range] at this
  exact this
theorem sorted_is {kvs : List (Key × V)} {f : Int → Option V} (h : DI kvs f) {n : Nat} (hd : ∀ i, (f i).isSome = true → 0 ≤ i ∧ i < n) {ys : List Int} (hp : ys.Perm (intsOf kvs)) (hs : ys.Pairwise (· ≤ ·)) : ys = upTo n fun i => (f i).isSome := by
  have nd : ys.Nodup := hp.nodup_iff.mpr h.nodI
  refine lt_uniq (le_lt hs nd) (upTo_lt _ _) fun i => ?_
  rw [upTo_mem, hp.mem_iff, h.memI]
  constructor
  · intro z
    exact ⟨hd i z, z⟩
  · exact fun z => z.2
theorem nod_len : ∀ (n : Nat) (ys : List Int), ys.Nodup → (∀ y ∈ ys, 0 ≤ y ∧ y < n) → ys.length ≤ n
  | 0, [], _, _ => Nat.le_refl _
  | 0, y :: ys, _, h => by
    have := h y List.mem_cons_self
    omega
  | n + 1, ys, nd, h => by
    by_cases hm : (n : Int) ∈ ys
    · have ih := nod_len n (ys.erase (n : Int)) (nd.erase _) fun y hy => by
        have a := (nd.mem_erase_iff).mp hy
        have b := h y a.2
        have := a.1
        omega
      rw [List.length_erase_of_mem hm] at ih
      omega
    · have ih := nod_len n ys nd fun y hy => by
        have b := h y hy
        have : y ≠ n := fun e => hm (e ▸ hy)
        omega
      omega
theorem fm_congr {α β : Type} {f g : α → Option β} : ∀ {l : List α}, (∀ x ∈ l, f x = g x) → l.filterMap f = l.filterMap g
  | [], _ => rfl
  | x :: r, h => by
    rw [List.filterMap_cons, List.filterMap_cons, h x List.mem_cons_self, fm_congr fun y hy => h y (List.mem_cons_of_mem _ hy)]
theorem DI.len {kvs : List (Key × V)} {f : Int → Option V} (h : DI kvs f) {n : Nat} (hd : ∀ i, (f i).isSome = true → 0 ≤ i ∧ i < n) : kvs.length ≤ n := by
  have := nod_len n (intsOf kvs) h.nodI fun i hi => hd i ((h.memI i).mp hi)
  rw [intsOf_length] at this
  exact this
def sumN (n : Nat) (g : Int → Nat) : Nat := ((List.range n).map fun (j : Nat) => g (j : Int)).sum
theorem sumN_succ (n : Nat) (g : Int → Nat) : sumN (n + 1) g = sumN n g + g n := by
  unfold sumN
  rw [List.range_succ, List.map_append, List.sum_append]
  simp
theorem sumN_cong {n : Nat} {g h : Int → Nat} (e : ∀ j : Int, 0 ≤ j → j < n → g j = h j) : sumN n g = sumN n h := by
  induction n with
  | zero => rfl
  | succ n ih =>
    rw [sumN_succ, sumN_succ, ih (fun j a b => e j a (by omega)), e n (by omega) (by omega)]
theorem sumN_upd {n : Nat} {g h : Int → Nat} {i : Int} (h0 : 0 ≤ i) (h1 : i < n) (e : ∀ j : Int, j ≠ i → g j = h j) : sumN n h + g i = sumN n g + h i := by
  induction n with
  | zero => omega
  | succ n ih =>
    rw [sumN_succ, sumN_succ]
    by_cases z : i = n
    · rw [sumN_cong (g := g) (h := h) fun j a b => e j (by omega), z]
      omega
    · have := ih (by omega)
      rw [e n (Ne.symm z)]
      omega
theorem sumN_zero {n : Nat} {g : Int → Nat} : sumN n g = 0 ↔ ∀ j : Int, 0 ≤ j → j < n → g j = 0 := by
  induction n with
  | zero => exact ⟨fun _ j a b => by omega, fun _ => rfl⟩
  | succ n ih =>
    rw [sumN_succ]
    constructor
    · intro h j a b
      by_cases z : j = n
      · rw [z]; omega
      · exact ih.mp (by omega) j a (by omega)
    · intro h
      have a := ih.mpr fun j a b => h j a (by omega)
      have b := h n (by omega) (by omega)
      omega
inductive Src where
  | non | file (n : Str) | obj (k : Int)
  deriving DecidableEq
/-- merge, stay, wipe -/
structure Fl where
  m : Bool
  s : Bool
  w : Bool
  deriving DecidableEq
def flL (f : Fl) : List Str := (if f.m = true then ([("merge" : Str)] : List Str) else []) ++ ((if f.s = true then ([("stay" : Str)] : List Str) else []) ++ (if f.w = true then ([("wipe" : Str)] : List Str) else []))
structure Pg where
  r : Str
  sh : Bool
  src : Src
  ix : Option Int
  fl : Fl
  deriving DecidableEq
def isObj : Src → Bool
  | .obj _ => true
  | _ => false
structure WfP (g : Pg) : Prop where
  sh : g.sh = true → g.src ≠ .non
  ob : ∀ k, g.src = .obj k → g.sh = true
  ix : g.src ≠ .non → ∃ i, g.ix = some i ∧ 0 ≤ i ∧ i < 512
  no : g.src = .non → g.ix = none
  okR : PyData.strOk g.r = true
  okN : ∀ n, g.src = .file n → PyData.strOk n = true
abbrev Tb := Int → Option Pg
def srcR (H : Hp) (v : V) : Src → Prop
  | .non => v = .non
  | .file n => ∃ a, v = .ref a ∧ H a = some (.tup [.str "file", .str n])
  | .obj k => ∃ a, v = .ref a ∧ H a = some (.tup [.str "object", .int k])
def ixV : Option Int → V
  | none => .non
  | some i => .int i
def pageF (r s so i f h st : V) : List (Str × V) := [("rights", r), ("shared", s), ("source", so), ("index", i), ("flags", f), ("held", h), ("stamp", st)]
def PgR (CP : Addr) (H : Hp) (p : Addr) (g : Pg) : Prop := ∃ (dx : Addr × Int) (sv : V) (fa : Addr), H p = some (.ins CP dx.1 (pageF (.str g.r) (.bl g.sh) sv (ixV g.ix) (.ref fa) .non (.int dx.2))) ∧ srcR H sv g.src ∧ H fa = some (.tup ((flL g.fl).map V.str))
/-- whether a page shows the page i of the object k -/
def showsO (k i : Int) (g : Pg) : Bool := g.sh && decide (g.src = .obj k) && decide (g.ix = some i)
def cntO (k i : Int) : Option Pg → Nat
  | some g => if showsO k i g = true then 1 else 0
  | none => 0
@[irreducible] def cntT (P : Tb) (k i : Int) : Nat := sumN 512 fun n => cntO k i (P n)
def occ (L : List Pg) (k i : Int) : Nat := (L.map fun g => cntO k i (some g)).sum
theorem occ_cons (g : Pg) (L : List Pg) (k i : Int) : occ (g :: L) k i = cntO k i (some g) + occ L k i := by
  unfold occ
  rw [List.map_cons, List.sum_cons]
theorem occ_append (L M : List Pg) (k i : Int) : occ (L ++ M) k i = occ L k i + occ M k i := by
  unfold occ
  rw [List.map_append, List.sum_append]
def setT (P : Tb) (n : Int) (x : Option Pg) : Tb := fun j => if j = n then x else P j
theorem cntT_none (k i : Int) : cntT (fun _ => none) k i = 0 := by
  unfold cntT
  exact sumN_zero.mpr fun j _ _ => rfl
theorem cntT_set {P : Tb} {n : Int} {x : Option Pg} (h0 : 0 ≤ n) (h1 : n < 512) (k i : Int) : cntT (setT P n x) k i + cntO k i (P n) = cntT P k i + cntO k i x := by
  have := sumN_upd (n := 512) (g := fun j => cntO k i (P j)) (h := fun j => cntO k i (setT P n x j)) (i := n) h0 (by omega) (fun j hj => by simp only [setT, if_neg hj])
  simp only [setT, if_pos] at this
  unfold cntT
  exact this
/-- changes, one after the other -/
def appT (P : Tb) (ch : List (Int × Option Pg)) : Tb := ch.foldl (fun Q q => setT Q q.1 q.2) P
theorem appT_cons (P : Tb) (q : Int × Option Pg) (ch : List (Int × Option Pg)) : appT P (q :: ch) = appT (setT P q.1 q.2) ch := rfl
theorem appT_cnt : ∀ (ch : List (Int × Option Pg)) (P : Tb), (ch.map (·.1)).Nodup → (∀ q ∈ ch, 0 ≤ q.1 ∧ q.1 < 512) → ∀ k i, cntT (appT P ch) k i + occ (ch.filterMap fun q => P q.1) k i = cntT P k i + occ (ch.filterMap (·.2)) k i
  | [], P, _, _, k, i => rfl
  | q :: r, P, nd, hb, k, i => by
    rw [List.map_cons, List.nodup_cons] at nd
    have ih := appT_cnt r (setT P q.1 q.2) nd.2 (fun z hz => hb z (List.mem_cons_of_mem _ hz)) k i
    have e : r.filterMap (fun z => setT P q.1 q.2 z.1) = r.filterMap fun z => P z.1 := fm_congr fun z hz => by
      show (if z.1 = q.1 then q.2 else P z.1) = P z.1
      rw [if_neg fun e => nd.1 (List.mem_map.mpr ⟨z, hz, e⟩)]
    rw [e] at ih
    have c := cntT_set (P := P) (x := q.2) (hb q List.mem_cons_self).1 (hb q List.mem_cons_self).2 k i
    rw [appT_cons]
    have o1 : occ ((q :: r).filterMap fun z => P z.1) k i = cntO k i (P q.1) + occ (r.filterMap fun z => P z.1) k i := by
      rw [List.filterMap_cons]
      cases hq : P q.1 with
      | none => simp [cntO]
      | some g => simp only [occ_cons]
    have o2 : occ ((q :: r).filterMap (·.2)) k i = cntO k i q.2 + occ (r.filterMap (·.2)) k i := by
      rw [List.filterMap_cons]
      cases hq : q.2 with
      | none => simp [cntO]
      | some g => simp only [occ_cons]
    omega
theorem occ_old : ∀ (ch : List (Int × Option Pg)) (P : Tb), (ch.map (·.1)).Nodup → (∀ q ∈ ch, 0 ≤ q.1 ∧ q.1 < 512) → ∀ k i, occ (ch.filterMap fun q => P q.1) k i ≤ cntT P k i := fun ch P nd hb k i => by
  have h := appT_cnt (ch.map fun q => (q.1, none)) P (by rw [List.map_map]; exact nd) (fun q hq => by
    obtain ⟨z, hz, rfl⟩ := List.mem_map.mp hq
    exact hb z hz) k i
  have e1 : (ch.map fun q => (q.1, (none : Option Pg))).filterMap (fun q => P q.1) = ch.filterMap fun q => P q.1 := by
    rw [List.filterMap_map]
    rfl
  have e2 : (ch.map fun q => (q.1, (none : Option Pg))).filterMap (·.2) = [] := by
    rw [List.filterMap_map]
    exact List.filterMap_eq_nil_iff.mpr fun _ _ => rfl
  rw [e1, e2] at h
  have : occ [] k i = 0 := rfl
  omega
theorem appT_out {ch : List (Int × Option Pg)} {P : Tb} {n : Int} (h : ∀ q ∈ ch, q.1 ≠ n) : appT P ch n = P n := by
  induction ch generalizing P with
  | nil => rfl
  | cons q r ih =>
    rw [appT_cons, ih fun z hz => h z (List.mem_cons_of_mem _ hz)]
    show (if n = q.1 then q.2 else P n) = P n
    rw [if_neg fun e => h q List.mem_cons_self e.symm]
theorem appT_in {ch : List (Int × Option Pg)} {P : Tb} (nd : (ch.map (·.1)).Nodup) {n : Int} {x : Option Pg} (h : (n, x) ∈ ch) : appT P ch n = x := by
  induction ch generalizing P with
  | nil => cases h
  | cons q r ih =>
    rw [List.map_cons, List.nodup_cons] at nd
    rw [appT_cons]
    rcases List.mem_cons.mp h with e | h
    · subst e
      rw [appT_out fun z hz e => nd.1 (List.mem_map.mpr ⟨z, hz, e⟩)]
      show (if n = n then x else P n) = x
      rw [if_pos rfl]
    · exact ih nd.2 h
end My
set_option Elab.async false
set_option linter.all false
set_option maxRecDepth 100000
set_option maxHeartbeats 4000000
namespace L2
open PySem PySem.Spec PyProof.Rows
section
variable {X : Cx}
def rSortedDL : List V → Hp → VK → Prop := fun xs H Q => ∃ (a : Addr) (kvs : List (Key × V)) (ks : List Int), xs = [.ref a] ∧ Rd H a (.dK kvs) ∧ kvs.map (·.1) = ks.map Sum.inl ∧
  ∀ (ys : List Int) (p : Addr), ys.Perm ks → ys.Pairwise (· ≤ ·) → H p = none → Q (.ref p) (upd H p (.lst (ys.map V.int)))
theorem call_sortedDL (hcalm : X.calm = true) : CallR X (.builtin "sorted") rSortedDL := by
  intro pins s σ H xs us Q I r q
  obtain ⟨a, kvs, ks, ex, hd, hks, q⟩ := q
  subst ex
  obtain ⟨u, eu, rx⟩ := vals1 r
  subst eu
  cases rx
  obtain ⟨z, lo, vs, rel, dd⟩ := dk_rd I.hok hd
  obtain ⟨ep, hat⟩ := dd.dictAt
  have hkeys : vs.map (·.1) = ks.map Sum.inl := rel.keys.symm.trans hks
  have hl : vs.length = ks.length := by
    have e := congrArg List.length hkeys
    rw [List.length_map, List.length_map] at e
    exact e
  have h16 : vs.length ≤ sizeLine := by rw [← rel.length]; exact z
  refine Calls.call_function_entry PyProof.Rows.kind_sorted PyProof.Rows.plain_sorted PyProof.Rows.entry_sorted (PyProof.Rows.args_sorted1 _) ?_
  unfold Builtin.«sorted»
  refine wpAny_bind (m := checkCount "sorted" 1 1 _) (wpAny_pure ?_)
  refine wpAny_bind (PySem.W.kdu_collect (A := X.A.in1) (PySem.W.kdl_dict (knd := mixKind X.prog X.w) (kvs := vs) (ep := ep) lo) (I.ok.hd hcalm) hat h16 fun h' tk acc hk hacc => ?_)
  have hal : acc.toList.length = ks.length := by rw [Array.length_toList, hacc.1, hl]
  have hS : IntsAre acc.toList ks := ints_each hal fun j v e => by
    obtain ⟨k, x, e1, e2⟩ := hacc.2 j v (by rw [← Array.getElem?_toList]; exact e)
    have e3 : (vs.map (·.1))[j]? = some k := by rw [List.getElem?_map, e1]; rfl
    rw [hkeys, List.getElem?_map] at e3
    cases e4 : ks[j]? with
    | none => rw [e4] at e3; cases e3
    | some y =>
      rw [e4] at e3
      have e5 : Sum.inl y = k := Option.some.inj e3
      subst e5
      rcases keyIs_shape (show keyIs (Sum.inl y) v = true from e2) with ⟨i, t, ek, ev⟩ | ⟨z, t, ek, ev⟩
      · cases ek
        exact ⟨y, t, rfl, ev⟩
      · cases ek
  have I1 : Inv X pins σ H { s with heap := h', toks := tk } := I.kept hk
  have hz : acc.toList.length ≤ sizeLine := by rw [hal, ← hl]; exact h16
  refine wpAny_bind (wpAny_newList ?_ hz)
  have hoL : (h'.push (seqObj "list" acc.toList.toArray 0)).get? h'.objs.size = some (seqObj "list" acc.toList.toArray 0) := Heap.get?_push_size _ rfl
  show wpAny _ _ _ _ _ { s with heap := h'.push (seqObj "list" acc.toList.toArray 0), toks := tk }
  refine wpAny_bind (wpAny_holding (wpAny_call_entry PyProof.Rows.slot_list_sort ⟨_, hoL, rfl⟩ PyProof.Rows.entry_list_sort
    (SrtO.list_sort_ord (s := { s with heap := h'.push (seqObj "list" acc.toList.toArray 0), toks := tk }) SrtO.swo_int hoL hz (fun h2 => SrtO.ints_sortable hS h2) fun out g1 g2 => ⟨_, rfl, ?_⟩) (PyProof.Rows.args_list_sort _)))
  obtain ⟨k1, k2, k3⟩ := SrtO.ints_out hS g1 g2
  obtain ⟨e', he'⟩ := PyProof.Rows.sortedHeap_at (vs := acc.toList) (out := out.toArray) hoL
  have hlen : ((out.map SrtO.iv).map V.int).length ≤ sizeLine := by
    rw [List.length_map, k2.length_eq, ← hl]
    exact h16
  refine wpAny_pure ⟨_, rfl, .ref h'.objs.size, upd H h'.objs.size (.lst ((out.map SrtO.iv).map V.int)), I1.laid (t' := tk) (fun b u e => ?_) (Nat.le_refl _)
    (show ObjOk X.prog X.w _ _ _ (.lst ((out.map SrtO.iv).map V.int)) from ⟨hlen, out, e', vals_of_ints k1, he'⟩), rfl, q _ _ k2 k3 (I1.hok.fresh (Nat.le_refl _))⟩
  have hb : b < h'.objs.size := Heap.lt_size e
  rw [PyProof.Rows.sortedHeap_old (Nat.ne_of_lt hb) (by rw [size_push']; exact Nat.lt_succ_of_lt hb)]
  exact Heap.get?_push_of_some _ e
/-- xs[i], 0 ≤ i, by values -/
def rGetL (K : PySem.W.Frag) : V → V → Hp → VK → Prop := fun x y H Q => ∃ (p : Addr) (xs : List V) (i : Nat) (v : V), x = .ref p ∧ y = .int (i : Nat) ∧ SqL K H p xs ∧ i < 1000 ∧ xs[i]? = some v ∧ Q v H
theorem get_list : PGet X (rGetL X.K) := by
  intro pins s σ H o i ov iv Q I ro ri h
  obtain ⟨p, xs, j, v, rfl, rfl, hq, lt, he, q⟩ := h
  cases ro
  obtain ⟨t, rfl⟩ := ri
  obtain ⟨its, r, pl, hz⟩ := I.list hq
  obtain ⟨w, ew, rw'⟩ := r.get he
  exact wpAny_getItem_list pl.isList (by omega) (by omega) (by simpa using ew) ⟨v, H, I, rw', q⟩
end
end L2
set_option Elab.async false
set_option linter.all false
set_option maxRecDepth 100000
set_option maxHeartbeats 4000000
namespace L2
open PySem PySem.Spec PyProof.Rows
end L2
set_option Elab.async false
set_option linter.all false
set_option maxRecDepth 100000
set_option maxHeartbeats 4000000
namespace L2
open PySem PySem.Spec PyProof.Rows
end L2
set_option Elab.async false
set_option linter.all false
set_option maxRecDepth 100000
set_option maxHeartbeats 4000000
namespace My
open PySem L2
theorem hu64 {A : Around} {k : Nat} (hr : Room k A) : A.units + 64 < cLine := by have := hr.un; omega
theorem hu0 {A : Around} {k : Nat} (hr : Room k A) : A.units < cLine := by have := hr.un; omega
def WellAt (H : Hp) (a : Addr) (B : Nat) : Prop := ∃ w0 w1 w2 : Int, H a = some (.lst [.int w0, .int w1, .int w2]) ∧ 0 ≤ w0 ∧ 0 ≤ w1 ∧ w1 < 2147483647 ∧ 0 ≤ w2 ∧ w2 ≤ B ∧ B ≤ 1000000000
theorem WellAt.same {H H' : Hp} {a : Addr} {B : Nat} (h : WellAt H a B) (e : H' a = H a) : WellAt H' a B := by
  obtain ⟨w0, w1, w2, h1, h2⟩ := h
  exact ⟨w0, w1, w2, e.trans h1, h2⟩
theorem WellAt.lst {H : Hp} {a : Addr} {B : Nat} (h : WellAt H a B) : ∃ xs, H a = some (.lst xs) := by
  obtain ⟨w0, w1, w2, h1, _⟩ := h
  exact ⟨_, h1⟩
theorem WellAt.mono {H : Hp} {a : Addr} {B B' : Nat} (h : WellAt H a B) (e : B ≤ B') (e2 : B' ≤ 1000000000) : WellAt H a B' := by
  obtain ⟨w0, w1, w2, h1, h2, h3, h4, h5, h6, h7⟩ := h
  exact ⟨w0, w1, w2, h1, h2, h3, h4, h5, by omega, e2⟩
theorem at7 {i : Int} (h0 : 0 ≤ i) (h1 : i < 7) : ∃ v : Int, atI [V.int 2147483647, V.int 2147483629, V.int 2147483587, V.int 2147483579, V.int 2147483563, V.int 2147483549, V.int 2147483543] i = some (V.int v) ∧ 2147483543 ≤ v ∧ v ≤ 2147483647 := by
  have h : i = 0 ∨ i = 1 ∨ i = 2 ∨ i = 3 ∨ i = 4 ∨ i = 5 ∨ i = 6 := by omega
  rcases h with h | h | h | h | h | h | h <;> subst h <;> exact ⟨_, rfl, by decide, by decide⟩
theorem fm {x m : Int} (h : 0 < m) : 0 ≤ x.fmod m ∧ x.fmod m < m := ⟨Int.fmod_nonneg_of_pos x h, Int.fmod_lt_of_pos x h⟩
theorem fdv {x m : Int} (h : 0 < m) (hx : 0 ≤ x) : 0 ≤ x.fdiv m ∧ x.fdiv m ≤ x := by
  rw [Int.fdiv_eq_ediv_of_nonneg _ (by omega)]
  exact ⟨Int.ediv_nonneg hx (by omega), Int.ediv_le_self _ hx⟩
theorem atI_in {xs : List V} {d : Int} (h0 : 0 ≤ d) (h1 : d < xs.length) : ∃ v, atI xs d = some v ∧ v ∈ xs := by
  refine ⟨xs[d.toNat]'(by omega), ?_, List.getElem_mem _⟩
  unfold atI ixN
  rw [if_pos h0, if_pos (by omega)]
  simp
inductive AnyV (H : Hp) : V → Prop where
  | non : AnyV H .non
  | bl (b : Bool) : AnyV H (.bl b)
  | int (i : Int) : AnyV H (.int i)
  | str (x : Str) : AnyV H (.str x)
  | lst {a : Addr} {xs : List V} (e : H a = some (.lst xs)) : AnyV H (.ref a)
  | tup {a : Addr} {xs : List V} (e : H a = some (.tup xs)) : AnyV H (.ref a)
  | dK {a : Addr} {kvs : List (Key × V)} (e : H a = some (.dK kvs)) : AnyV H (.ref a)
def isI : V → Bool
  | .int _ => true
  | .bl _ => true
  | _ => false
def isB : V → Bool
  | .bl _ => true
  | _ => false
def isS : V → Bool
  | .str _ => true
  | _ => false
def isTup (H : Hp) : V → Bool
  | .ref a => match H a with
    | some (.tup _) => true
    | _ => false
  | _ => false
theorem AnyV.ty {K : PySem.W.Frag} {H : Hp} {v : V} (h : AnyV H v) : ∃ t : String, TyX K H v (.type t) ∧ PySem.W.kitOne K (.type t) (.type "int") = some (isI v) ∧ PySem.W.kitOne K (.type t) (.type "bool") = some (isB v) ∧
    PySem.W.kitOne K (.type t) (.type "str") = some (isS v) ∧ PySem.W.kitOne K (.type t) (.type "tuple") = some (isTup H v) := by
  cases h with
  | non => exact ⟨_, .base .non, kit_ty (r := false) (by decide +kernel), kit_ty (r := false) (by decide +kernel), kit_ty (r := false) (by decide +kernel), kit_ty (r := false) (by decide +kernel)⟩
  | bl b => exact ⟨_, .base (.bl b), kit_ty (r := true) (by decide +kernel), kit_ty (r := true) (by decide +kernel), kit_ty (r := false) (by decide +kernel), kit_ty (r := false) (by decide +kernel)⟩
  | int i => exact ⟨_, .base (.int i), kit_ty (r := true) (by decide +kernel), kit_ty (r := false) (by decide +kernel), kit_ty (r := false) (by decide +kernel), kit_ty (r := false) (by decide +kernel)⟩
  | str x => exact ⟨_, .base (.str x), kit_ty (r := false) (by decide +kernel), kit_ty (r := false) (by decide +kernel), kit_ty (r := true) (by decide +kernel), kit_ty (r := false) (by decide +kernel)⟩
  | @lst a xs e =>
    have z : isTup H (.ref a) = false := by simp only [isTup, e]
    rw [z]
    exact ⟨_, .base (.lst e), kit_ty (r := false) (by decide +kernel), kit_ty (r := false) (by decide +kernel), kit_ty (r := false) (by decide +kernel), kit_ty (r := false) (by decide +kernel)⟩
  | @tup a xs e =>
    have z : isTup H (.ref a) = true := by simp only [isTup, e]
    rw [z]
    exact ⟨_, .base (.tup e), kit_ty (r := false) (by decide +kernel), kit_ty (r := false) (by decide +kernel), kit_ty (r := false) (by decide +kernel), kit_ty (r := true) (by decide +kernel)⟩
  | @dK a kvs e =>
    have z : isTup H (.ref a) = false := by simp only [isTup, e]
    rw [z]
    exact ⟨_, .base (.dK e), kit_ty (r := false) (by decide +kernel), kit_ty (r := false) (by decide +kernel), kit_ty (r := false) (by decide +kernel), kit_ty (r := false) (by decide +kernel)⟩
theorem AnyV.keep {H H' : Hp} {v : V} (h : AnyV H v) (e : ∀ a o, v = .ref a → H a = some o → H' a = some o) : AnyV H' v := by
  cases h with
  | non => exact .non
  | bl b => exact .bl b
  | int i => exact .int i
  | str x => exact .str x
  | lst z => exact .lst (e _ _ rfl z)
  | tup z => exact .tup (e _ _ rfl z)
  | dK z => exact .dK (e _ _ rfl z)
theorem AnyV.same {H H' : Hp} {v : V} (h : AnyV H v) (e : Same H H') : AnyV H' v := h.keep fun a o _ z => e a o z
theorem AnyV.selfEq {H : Hp} {v : V} (h : AnyV H v) : L2.selfEq v = true := by cases h <;> rfl
/-- whether a value is an integer from lo to hi -/
def inR (lo hi : Int) : V → Bool
  | .int i => decide (lo ≤ i ∧ i ≤ hi)
  | _ => false
theorem inR_int {lo hi : Int} {v : V} (h : inR lo hi v = true) : ∃ i, v = .int i ∧ lo ≤ i ∧ i ≤ hi := by
  cases v <;> first | exact ⟨_, rfl, of_decide_eq_true h⟩ | cases h
theorem inR_of {lo hi i : Int} (h0 : lo ≤ i) (h1 : i ≤ hi) : inR lo hi (.int i) = true := decide_eq_true ⟨h0, h1⟩
/-- what an error of the class C with the field f and the value v leaves -/
def Rz (C : Addr) (f : Str) (v : V) (H : Hp) (E : XK) : Prop := ∀ d H', Same H H' → H d = none → H' d = some (.xd [(f, v)]) → E (.ref C) (some d) H'
theorem Rz.same {C : Addr} {f : Str} {v : V} {H H1 : Hp} {E : XK} (h : Rz C f v H E) (s : Same H H1) : Rz C f v H1 E := fun d H' s' hd e => h d H' (s.trans s') (Same.free s hd) e
def spXi (K : PySem.W.Frag) (f : Str) : Sp := fun vs H Q _ => ∃ (a C : Addr) (y : V), vs = [.ref a, y] ∧ OexC K C ∧ PySem.W.findIn K (.ref C) f = some none ∧ H a = some (exo a C none) ∧
  ∀ dx, H dx = none → dx ≠ a → Q .non (upd (upd H dx (exd dx [(f, y)])) a (exo a C (some dx)))
theorem xi_done {K : PySem.W.Frag} {f : Str} {y : V} {a C : Addr} {H : Hp} {E : XK} (hC : OexC K C) (hn : PySem.W.findIn K (.ref C) f = some none) (ha : H a = none) (k : Rz C f y H E) :
    spXi K f [.ref a, y] (upd H a (exo a C none)) (fun v H2 => v = .non ∧ ∃ (d : Addr) (fs : List (Str × V)), H2 a = some (exo a C (some d)) ∧ H2 d = some (exd d fs) ∧ H d = none ∧ E (.ref C) (some d) (upd (del H2 a) d (.xd fs))) (fun _ _ _ => False) := by
  refine ⟨a, C, y, rfl, hC, hn, upd_same, fun dx hx ne => ⟨rfl, dx, [(f, y)], upd_same, ?_, (upd_none hx).2, ?_⟩⟩
  · rw [upd_ne ne, upd_same]
  · refine k dx _ (fun b o e => ?_) (upd_none hx).2 upd_same
    rw [upd_ne (ne_of_none e (upd_none hx).2), del_ne (ne_of_none e ha), upd_ne (ne_of_none e ha), upd_ne (ne_of_none e (upd_none hx).2), upd_ne (ne_of_none e ha)]
    exact e
theorem exm_is {K : PySem.W.Frag} {T S : Addr} {b : Bool} (h1 : PySem.W.subIn K (.ref S) (.type "BaseException") = some true) (h2 : PySem.W.isClsIn K S = true) (h3 : PySem.W.typeIn K (.ref S) = some (.type "type")) (h4 : PySem.W.subIn K (.ref T) (.ref S) = some b) : PySem.W.exmOne K (.ref T) (.ref S) = some b := by
  have h2' : (PySem.W.clsIn K S).isSome = true := h2
  unfold PySem.W.exmOne PySem.W.kitCls
  rw [h1]
  simp only [h2', h3, h4, beq_self_eq_true, Bool.and_self, if_true]
inductive Tag where
  | sys | tabs | objs | opgs | files | tab (i : Int) | usr (k : Int) | his | row | lks
  deriving DecidableEq
abbrev Tm := Addr → Option Tag
structure Sys where
  n : Int
  p : Int
  o : Int
  tabs : Int → Option Tb
  fls : Str → Bool
structure Wh where
  dx : Addr
  t : Addr
  ob : Addr
  og : Addr
  fi : Addr
  cl : Addr
  me : Addr
  sw : Addr
  hi : Addr
  ro : Addr
def sysF (n p o : Int) (w : Wh) : List (Str × V) :=
  [("frames", .non), ("slots", .non), ("strict", .bl false), ("steps_made", .int n), ("processes_made", .int p), ("objects_made", .int o), ("tables", .ref w.t), ("objects", .ref w.ob), ("object_pages", .ref w.og), ("files", .ref w.fi), ("classes", .ref w.cl), ("locked_pages", .int 0), ("memory", .ref w.me), ("swapped", .ref w.sw), ("faults", .int 0), ("swap_outs", .int 0), ("write_backs", .int 0), ("history", .ref w.hi)]
/-- the fields of the history -/
def hisF (ro lk : Addr) (y : Nat → V) : List (Str × V) :=
  [("row", .ref ro), ("holes", y 0), ("locked", .ref lk), ("classes", y 1), ("touches", y 2), ("distances", y 3), ("swap_outs", y 4), ("write_backs", y 5), ("most_slots", y 6), ("saves", y 7), ("lock_changes", y 8), ("most_locked", y 9), ("crashed", y 10), ("merged", y 11)]
/-- pages and tuples are never changed -/
def isImm : HO → Bool
  | .tup _ => true
  | .ins _ _ fs => fs.length == 7
  | _ => false
def isBox : HO → Bool
  | .dK _ => true
  | .dT _ => true
  | .lst _ => true
  | .ins _ _ fs => fs.length == 14
  | _ => false
def ImmK (H H' : Hp) : Prop := ∀ b o, H b = some o → isImm o = true → H' b = some o
theorem ImmK.same {H H' : Hp} (h : Same H H') : ImmK H H' := fun b o e _ => h b o e
theorem ImmK.trans {H H1 H2 : Hp} (h : ImmK H H1) (k : ImmK H1 H2) : ImmK H H2 := fun b o e i => k b o (h b o e i) i
theorem ImmK.upd {H : Hp} {a : Addr} {o u : HO} (h : H a = some o) (hi : isImm o = false) : ImmK H (upd H a u) := fun b v e i => by
  by_cases z : b = a
  · rw [z, h] at e
    cases e
    rw [hi] at i
    cases i
  · rw [upd_ne z]
    exact e
theorem srcR.keep {H H' : Hp} {v : V} {s : Src} (h : srcR H v s) (k : ImmK H H') : srcR H' v s := by
  cases s with
  | non => exact h
  | file n => obtain ⟨a, e1, e2⟩ := h; exact ⟨a, e1, k _ _ e2 rfl⟩
  | obj j => obtain ⟨a, e1, e2⟩ := h; exact ⟨a, e1, k _ _ e2 rfl⟩
theorem PgR.keep {CP : Addr} {H H' : Hp} {p : Addr} {g : Pg} (h : PgR CP H p g) (k : ImmK H H') : PgR CP H' p g := by
  obtain ⟨dx, sv, fa, e1, e2, e3⟩ := h
  exact ⟨dx, sv, fa, k _ _ e1 rfl, e2.keep k, k _ _ e3 rfl⟩
def PgO (CP : Addr) (H : Hp) (i : Int) : Option V → Option Pg → Prop
  | none, none => True
  | some v, some g => (0 ≤ i ∧ i < 512) ∧ WfP g ∧ ∃ p, v = .ref p ∧ PgR CP H p g
  | _, _ => False
theorem PgO.keep {CP : Addr} {H H' : Hp} {i : Int} {v : Option V} {g : Option Pg} (h : PgO CP H i v g) (k : ImmK H H') : PgO CP H' i v g := by
  match v, g, h with
  | none, none, _ => exact True.intro
  | some v, some g, h => obtain ⟨b, wf, p, e1, e2⟩ := h; exact ⟨b, wf, p, e1, e2.keep k⟩
theorem PgO.isSome {CP : Addr} {H : Hp} {i : Int} {v : Option V} {g : Option Pg} (h : PgO CP H i v g) : v.isSome = g.isSome := by
  match v, g, h with
  | none, none, _ => rfl
  | some v, some g, _ => rfl
/-- a table of pages -/
def TabR (CP : Addr) (H : Hp) (d : Addr) (P : Tb) : Prop := ∃ kvs f, H d = some (.dK kvs) ∧ DI kvs f ∧ ∀ i, PgO CP H i (f i) (P i)
theorem TabR.keep {CP : Addr} {H H' : Hp} {d : Addr} {P : Tb} (h : TabR CP H d P) (k : ImmK H H') (e : H' d = H d) : TabR CP H' d P := by
  obtain ⟨kvs, f, h1, h2, h3⟩ := h
  exact ⟨kvs, f, e.trans h1, h2, fun i => (h3 i).keep k⟩
theorem PgO.low {CP : Addr} {H : Hp} {i : Int} {v : Option V} {g : Option Pg} (h : PgO CP H i v g) (s : v.isSome = true) : 0 ≤ i ∧ i < 512 := by
  match v, g, h with
  | some v, some g, h => exact h.1
/-- the users of the pages of an object -/
def UsrR (H : Hp) (u : Addr) (c : Int → Nat) : Prop := ∃ kvs f, H u = some (.dK kvs) ∧ DI kvs f ∧ (∀ i, f i = if c i = 0 then none else some (.int (c i : Nat))) ∧ ∀ i, c i ≠ 0 → 0 ≤ i ∧ i < 512
def ObjO (H : Hp) (τ : Tm) (o k : Int) (c : Int → Nat) : Option V → Prop
  | none => ∀ i, c i = 0
  | some v => (1 ≤ k ∧ k ≤ o) ∧ (∃ i, c i ≠ 0) ∧ ∃ u, v = .ref u ∧ τ u = some (.usr k) ∧ UsrR H u c
def ObR (H : Hp) (τ : Tm) (ob : Addr) (o : Int) (cnt : Int → Int → Nat) : Prop := ∃ kvs f, H ob = some (.dK kvs) ∧ DI kvs f ∧ ∀ k, ObjO H τ o k (cnt k) (f k)
def TbO (CP : Addr) (H : Hp) (τ : Tm) (p i : Int) : Option V → Option Tb → Prop
  | none, none => True
  | some v, some P => (1 ≤ i ∧ i ≤ p) ∧ ∃ d, v = .ref d ∧ τ d = some (.tab i) ∧ TabR CP H d P
  | _, _ => False
def TsR (CP : Addr) (H : Hp) (τ : Tm) (t : Addr) (p : Int) (tabs : Int → Option Tb) : Prop := ∃ kvs f, H t = some (.dK kvs) ∧ DI kvs f ∧ ∀ i, TbO CP H τ p i (f i) (tabs i)
def FilR (H : Hp) (fi : Addr) (fls : Str → Bool) : Prop := ∃ kvs : List (Key × V), H fi = some (.dK kvs) ∧ (∀ nm : Str, (valV kvs (Sum.inr nm)).isSome = fls nm) ∧ kvs.length ≤ 100 ∧ ∀ nm, fls nm = true → PyData.strOk nm = true
/-- the history of a system in which nothing was touched -/
structure HisR (CH : Addr) (H : Hp) (τ : Tm) (w : Wh) : Prop where
  at_ : ∃ dh lk y, H w.hi = some (.ins CH dh (hisF w.ro lk y)) ∧ H lk = some (.lst []) ∧ τ lk = some .lks
  ro : H w.ro = some (.lst [])
  th : τ w.hi = some .his
  tr : τ w.ro = some .row
theorem HisR.keep {CH : Addr} {H H' : Hp} {τ τ' : Tm} {w : Wh} (h : HisR CH H τ w) (e : ∀ b g, τ b = some g → (g = .his ∨ g = .row ∨ g = .lks) → ∀ o, H b = some o → H' b = some o) (t : ∀ b g, τ b = some g → τ' b = some g) : HisR CH H' τ' w := by
  obtain ⟨dh, lk, y, h1, h2, h3⟩ := h.at_
  exact ⟨⟨dh, lk, y, e _ _ h.th (.inl rfl) _ h1, e _ _ h3 (.inr (.inr rfl)) _ h2, t _ _ h3⟩, e _ _ h.tr (.inr (.inl rfl)) _ h.ro, t _ _ h.th, t _ _ h.tr⟩
structure SyA (CS CP CH : Addr) (H : Hp) (x : Addr) (w : Wh) (S : Sys) (τ : Tm) (cnt : Int → Int → Nat) : Prop where
  hx : H x = some (.ins CS w.dx (sysF S.n S.p S.o w))
  tx : τ x = some .sys
  tt : τ w.t = some .tabs
  to : τ w.ob = some .objs
  tg : τ w.og = some .opgs
  tf : τ w.fi = some .files
  tabs : TsR CP H τ w.t S.p S.tabs
  obs : ObR H τ w.ob S.o cnt
  ogs : H w.og = some (.dT [])
  fis : FilR H w.fi S.fls
  bp : 0 ≤ S.p ∧ S.p ≤ 1000
  bo : 0 ≤ S.o ∧ S.o ≤ 1000
  own : ∀ b g, τ b = some g → b = x ∨ ∃ o, H b = some o ∧ isBox o = true
  his : HisR CH H τ w
@[irreducible] def cntS (S : Sys) (k i : Int) : Nat := sumN 1001 fun j => match S.tabs j with
  | some P => cntT P k i
  | none => 0
abbrev SyR (CS CP CH : Addr) (H : Hp) (x : Addr) (w : Wh) (S : Sys) (τ : Tm) : Prop := SyA CS CP CH H x w S τ (cntS S)
/-- what a step of the program leaves: all that is not the system's; new things become the system's -/
def Fr (τ : Tm) (H H' : Hp) : Prop := ∀ b o, τ b = none → H b = some o → H' b = some o
def Ex (τ τ' : Tm) (H : Hp) : Prop := ∀ b, τ' b = τ b ∨ (τ b = none ∧ H b = none)
structure Go (τ : Tm) (H : Hp) (τ' : Tm) (H' : Hp) : Prop where
  fr : Fr τ H H'
  ex : Ex τ τ' H
  ls : ∀ b xs, H b = some (.lst xs) → H' b = some (.lst xs)
def isLst : HO → Bool
  | .lst _ => true
  | _ => false
theorem Go.refl (τ : Tm) (H : Hp) : Go τ H τ H := ⟨fun _ _ _ e => e, fun _ => .inl rfl, fun _ _ e => e⟩
theorem Go.same {τ : Tm} {H H' : Hp} (s : Same H H') : Go τ H τ H' := ⟨fun b o _ e => s b o e, fun _ => .inl rfl, fun b xs e => s b _ e⟩
theorem Go.trans {τ τ1 τ2 : Tm} {H H1 H2 : Hp} (a : Go τ H τ1 H1) (b : Go τ1 H1 τ2 H2) : Go τ H τ2 H2 := by
  refine ⟨fun c o n e => ?_, fun c => ?_, fun c xs e => b.ls c xs (a.ls c xs e)⟩
  · rcases a.ex c with z | ⟨_, z⟩
    · exact b.fr c o (z.trans n) (a.fr c o n e)
    · rw [e] at z; cases z
  · rcases b.ex c with z | ⟨z1, z2⟩
    · rcases a.ex c with y | y
      · exact .inl (z.trans y)
      · exact .inr y
    · rcases a.ex c with y | y
      · refine .inr ⟨y.symm.trans z1, ?_⟩
        cases e : H c with
        | none => rfl
        | some o => rw [a.fr c o (y.symm.trans z1) e] at z2; cases z2
      · exact .inr y
theorem Go.upd {τ : Tm} {H : Hp} {a : Addr} {o u : HO} (h : τ a ≠ none) (ea : H a = some u) (n : isLst u = false := by rfl) : Go τ H τ (upd H a o) := ⟨fun b u n e => by
  have nz : b ≠ a := fun z => h (by rw [← z]; exact n)
  show L2.upd H a o b = some u
  rw [upd_ne nz]; exact e, fun _ => .inl rfl, fun b xs e => by
  have nz : b ≠ a := fun z => by rw [z, ea] at e; cases e; cases n
  show L2.upd H a o b = some _
  rw [upd_ne nz]; exact e⟩
/-- what the system leans on stays -/
def Kp (τ : Tm) (H H' : Hp) : Prop := ∀ b o, H b = some o → (τ b ≠ none ∨ isImm o = true) → H' b = some o
theorem Kp.same {τ : Tm} {H H' : Hp} (s : Same H H') : Kp τ H H' := fun b o e _ => s b o e
theorem Kp.imm {τ : Tm} {H H' : Hp} (k : Kp τ H H') : ImmK H H' := fun b o e i => k b o e (.inr i)
section
variable {CS CP CH : Addr} {H H' : Hp} {x : Addr} {w : Wh} {S : Sys} {τ : Tm} {cnt : Int → Int → Nat}
theorem UsrR.keep {u : Addr} {c : Int → Nat} (h : UsrR H u c) (e : H' u = H u) : UsrR H' u c := by
  obtain ⟨kvs, f, h1, h2⟩ := h
  exact ⟨kvs, f, e.trans h1, h2⟩
theorem ObjO.keep {τ' : Tm} {o o' k : Int} {c : Int → Nat} {v : Option V} (h : ObjO H τ o k c v) (e : ∀ u, τ u = some (.usr k) → (∃ z, H u = some z) → H' u = H u ∧ τ' u = τ u) (ho : o ≤ o') : ObjO H' τ' o' k c v := by
  cases v with
  | none => exact h
  | some v =>
    obtain ⟨b, c1, u, rfl, tu, hu⟩ := h
    obtain ⟨kvs, f, hk, _⟩ := id hu
    obtain ⟨e1, e2⟩ := e u tu ⟨_, hk⟩
    exact ⟨by omega, c1, u, rfl, e2.trans tu, hu.keep e1⟩
theorem TbO.keep {τ' : Tm} {p p' i : Int} {v : Option V} {P : Option Tb} (h : TbO CP H τ p i v P) (k : ImmK H H') (e : ∀ d, τ d = some (.tab i) → (∃ z, H d = some z) → H' d = H d ∧ τ' d = τ d) (hp : p ≤ p') : TbO CP H' τ' p' i v P := by
  match v, P, h with
  | none, none, _ => exact True.intro
  | some v, some P, h =>
    obtain ⟨b, d, rfl, td, hd⟩ := h
    obtain ⟨kvs, f, hk, _⟩ := id hd
    obtain ⟨e1, e2⟩ := e d td ⟨_, hk⟩
    exact ⟨by omega, d, rfl, e2.trans td, hd.keep k e1⟩
theorem SyA.keep (h : SyA CS CP CH H x w S τ cnt) (k : Kp τ H H') : SyA CS CP CH H' x w S τ cnt := by
  have at_ : ∀ {b : Addr} {g : Tag}, τ b = some g → ∀ {o}, H b = some o → H' b = some o := fun t _ e => k _ _ e (.inl (by rw [t]; simp))
  have eq_ : ∀ {b : Addr} {g : Tag}, τ b = some g → (∃ z, H b = some z) → H' b = H b ∧ τ b = τ b := fun t ⟨z, e⟩ => ⟨(at_ t e).trans e.symm, rfl⟩
  refine ⟨at_ h.tx h.hx, h.tx, h.tt, h.to, h.tg, h.tf, ?_, ?_, at_ h.tg h.ogs, ?_, h.bp, h.bo, fun b g e => ?_, h.his.keep (fun b g t _ o e => at_ t e) (fun b g t => t)⟩
  · obtain ⟨kvs, f, h1, h2, h3⟩ := h.tabs
    exact ⟨kvs, f, at_ h.tt h1, h2, fun i => (h3 i).keep k.imm (fun d td z => eq_ td z) (Int.le_refl _)⟩
  · obtain ⟨kvs, f, h1, h2, h3⟩ := h.obs
    exact ⟨kvs, f, at_ h.to h1, h2, fun i => (h3 i).keep (fun d td z => eq_ td z) (Int.le_refl _)⟩
  · obtain ⟨kvs, h1, h2⟩ := h.fis
    exact ⟨kvs, at_ h.tf h1, h2⟩
  · rcases h.own b g e with z | ⟨o, z1, z2⟩
    · exact .inl z
    · exact .inr ⟨o, at_ e z1, z2⟩
theorem SyA.same (h : SyA CS CP CH H x w S τ cnt) (s : Same H H') : SyA CS CP CH H' x w S τ cnt := h.keep (Kp.same s)
theorem SyA.cong {cnt' : Int → Int → Nat} (h : SyA CS CP CH H x w S τ cnt) (e : ∀ k i, cnt k i = cnt' k i) : SyA CS CP CH H x w S τ cnt' := by
  have : cnt = cnt' := by funext k i; exact e k i
  rw [← this]; exact h
/-- the table of a living process -/
def TabOf (H : Hp) (w : Wh) (i : Int) (d : Addr) : Prop := ∃ kvs, H w.t = some (.dK kvs) ∧ valV kvs (Sum.inl i) = some (.ref d)
theorem SyA.living (h : SyA CS CP CH H x w S τ cnt) {i : Int} {P : Tb} (e : S.tabs i = some P) : ∃ d, TabOf H w i d := by
  obtain ⟨kvs, f, h1, h2, h3⟩ := h.tabs
  have z := h3 i
  rw [e] at z
  cases ef : f i with
  | none => rw [ef] at z; exact z.elim
  | some v =>
    rw [ef] at z
    obtain ⟨_, d, rfl, _⟩ := z
    exact ⟨d, kvs, h1, (h2.val i).trans ef⟩
theorem SyA.tab (h : SyA CS CP CH H x w S τ cnt) {i : Int} {d : Addr} (e : TabOf H w i d) : ∃ P, S.tabs i = some P ∧ (1 ≤ i ∧ i ≤ S.p) ∧ τ d = some (.tab i) ∧ TabR CP H d P := by
  obtain ⟨kvs, f, h1, h2, h3⟩ := h.tabs
  obtain ⟨kvs', h1', hv⟩ := e
  rw [h1] at h1'
  cases h1'
  have z := h3 i
  rw [← h2.val i, hv] at z
  cases eP : S.tabs i with
  | none => rw [eP] at z; exact z.elim
  | some P =>
    rw [eP] at z
    obtain ⟨b, d', e', td, hd⟩ := z
    cases e'
    exact ⟨P, rfl, b, td, hd⟩
theorem SyA.tabE (h : SyA CS CP CH H x w S τ cnt) {i : Int} {d : Addr} {P : Tb} (e : TabOf H w i d) (eP : S.tabs i = some P) : (1 ≤ i ∧ i ≤ S.p) ∧ τ d = some (.tab i) ∧ TabR CP H d P := by
  obtain ⟨P', e', r⟩ := h.tab e
  rw [eP] at e'
  cases e'
  exact r
theorem TabOf.keep {i : Int} {d : Addr} (h : TabOf H w i d) (e : ∀ o, H w.t = some o → H' w.t = some o) : TabOf H' w i d := by
  obtain ⟨k, h1, h2⟩ := h
  exact ⟨k, e _ h1, h2⟩
theorem SyA.notIn (h : SyA CS CP CH H x w S τ cnt) {i : Int} (e : S.tabs i = none) : ∃ kvs, H w.t = some (.dK kvs) ∧ valV kvs (Sum.inl i) = none := by
  obtain ⟨kvs, f, h1, h2, h3⟩ := h.tabs
  have z := h3 i
  rw [e] at z
  cases ef : f i with
  | none => exact ⟨kvs, h1, (h2.val i).trans ef⟩
  | some v => rw [ef] at z; exact z.elim
theorem ne_tag {b c : Addr} {g g' : Tag} (h : τ b = some g) (h' : τ c = some g') (n : g ≠ g') : b ≠ c := fun e => by
  rw [e, h'] at h
  exact n (Option.some.inj h).symm
/-- the system's own fields change, nothing else -/
theorem SyA.put (h : SyA CS CP CH H x w S τ cnt) {n' o' : Int} (ho : S.o ≤ o') (ho2 : o' ≤ 1000) : SyA CS CP CH (upd H x (.ins CS w.dx (sysF n' S.p o' w))) x w { S with n := n', o := o' } τ cnt := by
  have im : ImmK H (upd H x (.ins CS w.dx (sysF n' S.p o' w))) := ImmK.upd h.hx rfl
  have at_ : ∀ {b : Addr} {g : Tag}, τ b = some g → g ≠ .sys → (upd H x (.ins CS w.dx (sysF n' S.p o' w))) b = H b := fun t n => upd_ne (ne_tag t h.tx n)
  refine ⟨upd_same, h.tx, h.tt, h.to, h.tg, h.tf, ?_, ?_, (at_ h.tg (by simp)).trans h.ogs, ?_, h.bp, ⟨by have := h.bo; simp only; omega, ho2⟩, fun b g e => ?_, h.his.keep (fun b g t c o e => by rw [at_ t (by rcases c with c | c | c <;> rw [c] <;> simp)]; exact e) (fun b g t => t)⟩
  · obtain ⟨kvs, f, h1, h2, h3⟩ := h.tabs
    exact ⟨kvs, f, (at_ h.tt (by simp)).trans h1, h2, fun i => (h3 i).keep im (fun d td _ => ⟨at_ td (by simp), rfl⟩) (Int.le_refl _)⟩
  · obtain ⟨kvs, f, h1, h2, h3⟩ := h.obs
    exact ⟨kvs, f, (at_ h.to (by simp)).trans h1, h2, fun i => (h3 i).keep (fun d td _ => ⟨at_ td (by simp), rfl⟩) ho⟩
  · obtain ⟨kvs, h1, h2⟩ := h.fis
    exact ⟨kvs, (at_ h.tf (by simp)).trans h1, h2⟩
  · rcases h.own b g e with z | ⟨o, z1, z2⟩
    · exact .inl z
    · by_cases bx : b = x
      · exact .inl bx
      · exact .inr ⟨o, by rw [upd_ne bx]; exact z1, z2⟩
def Sys.setTab (S : Sys) (i : Int) (P : Option Tb) : Sys := { S with tabs := fun j => if j = i then P else S.tabs j }
/-- one table changes -/
theorem SyA.putTab (h : SyA CS CP CH H x w S τ cnt) {i : Int} {d : Addr} {P' : Tb} {kvs' : List (Key × V)} (e : TabOf H w i d) (r : TabR CP (upd H d (.dK kvs')) d P') : SyA CS CP CH (upd H d (.dK kvs')) x w (S.setTab i (some P')) τ cnt := by
  obtain ⟨P, eP, bi, td, kvs0, f0, hd, _⟩ := h.tab e
  have im : ImmK H (upd H d (.dK kvs')) := ImmK.upd hd rfl
  have at_ : ∀ {b : Addr} {g : Tag}, τ b = some g → g ≠ .tab i → (upd H d (.dK kvs')) b = H b := fun t n => upd_ne (ne_tag t td n)
  refine ⟨(at_ h.tx (by simp)).trans h.hx, h.tx, h.tt, h.to, h.tg, h.tf, ?_, ?_, (at_ h.tg (by simp)).trans h.ogs, ?_, h.bp, h.bo, fun b g e' => ?_, h.his.keep (fun b g t c o e => by rw [at_ t (by rcases c with c | c | c <;> rw [c] <;> simp)]; exact e) (fun b g t => t)⟩
  · obtain ⟨kvs, f, h1, h2, h3⟩ := h.tabs
    refine ⟨kvs, f, (at_ h.tt (by simp)).trans h1, h2, fun j => ?_⟩
    by_cases ej : j = i
    · subst ej
      have z := h3 j
      show TbO CP _ τ S.p j (f j) (if j = j then some P' else S.tabs j)
      rw [if_pos rfl]
      obtain ⟨kvs1, q1, q2⟩ := e
      rw [h1] at q1
      cases q1
      rw [← h2.val j, q2]
      exact ⟨bi, d, rfl, td, r⟩
    · show TbO CP _ τ S.p j (f j) (if j = i then some P' else S.tabs j)
      rw [if_neg ej]
      exact (h3 j).keep im (fun d' td' _ => ⟨at_ td' (fun z => ej (Tag.tab.inj z)), rfl⟩) (Int.le_refl _)
  · obtain ⟨kvs, f, h1, h2, h3⟩ := h.obs
    exact ⟨kvs, f, (at_ h.to (by simp)).trans h1, h2, fun i => (h3 i).keep (fun d td _ => ⟨at_ td (by simp), rfl⟩) (Int.le_refl _)⟩
  · obtain ⟨kvs, h1, h2⟩ := h.fis
    exact ⟨kvs, (at_ h.tf (by simp)).trans h1, h2⟩
  · rcases h.own b g e' with z | ⟨o, z1, z2⟩
    · exact .inl z
    · by_cases bx : b = d
      · exact .inr ⟨.dK kvs', by rw [bx, upd_same], rfl⟩
      · exact .inr ⟨o, by rw [upd_ne bx]; exact z1, z2⟩
end
theorem upd_comm {H : Hp} {a b : Addr} {o u : HO} (n : a ≠ b) : upd (upd H a o) b u = upd (upd H b u) a o := by
  funext c
  by_cases e1 : c = a
  · subst e1
    rw [upd_ne n, upd_same, upd_same]
  · by_cases e2 : c = b
    · subst e2
      rw [upd_same, upd_ne e1, upd_same]
    · rw [upd_ne e2, upd_ne e1, upd_ne e1, upd_ne e2]
def setC (cnt : Int → Int → Nat) (k : Int) (c : Int → Nat) : Int → Int → Nat := fun k' => if k' = k then c else cnt k'
def setTag (τ : Tm) (u : Addr) (g : Tag) : Tm := fun b => if b = u then some g else τ b
theorem setTag_ne {τ : Tm} {u b : Addr} {g : Tag} (h : b ≠ u) : setTag τ u g b = τ b := if_neg h
theorem setTag_same {τ : Tm} {u : Addr} {g : Tag} : setTag τ u g u = some g := if_pos rfl
section
variable {CS CP CH : Addr} {H H' : Hp} {x : Addr} {w : Wh} {S : Sys} {τ : Tm} {cnt : Int → Int → Nat} {k : Int} {u : Addr} {okvs : List (Key × V)}
theorem SyA.usr (h : SyA CS CP CH H x w S τ cnt) (ho : H w.ob = some (.dK okvs)) (hu : valV okvs (Sum.inl k) = some (.ref u)) : τ u = some (.usr k) ∧ UsrR H u (cnt k) ∧ (∃ i, cnt k i ≠ 0) ∧ 1 ≤ k ∧ k ≤ S.o := by
  obtain ⟨kvs, f, h1, h2, h3⟩ := h.obs
  rw [ho] at h1
  cases h1
  have z := h3 k
  rw [← h2.val k, hu] at z
  obtain ⟨b, c, u', e, t, r⟩ := z
  cases e
  exact ⟨t, r, c, b⟩
theorem SyA.noUsr (h : SyA CS CP CH H x w S τ cnt) (ho : H w.ob = some (.dK okvs)) (hu : valV okvs (Sum.inl k) = none) : ∀ i, cnt k i = 0 := by
  obtain ⟨kvs, f, h1, h2, h3⟩ := h.obs
  rw [ho] at h1
  cases h1
  have z := h3 k
  rw [← h2.val k, hu] at z
  exact z
theorem SyA.obv (h : SyA CS CP CH H x w S τ cnt) (ho : H w.ob = some (.dK okvs)) (k : Int) : valV okvs (Sum.inl k) = none ∨ ∃ u, valV okvs (Sum.inl k) = some (.ref u) := by
  obtain ⟨kvs, f, h1, h2, h3⟩ := h.obs
  rw [ho] at h1
  cases h1
  have z := h3 k
  rw [← h2.val k] at z
  cases e : valV okvs (Sum.inl k) with
  | none => exact .inl rfl
  | some v =>
    rw [e] at z
    obtain ⟨_, _, u, e', _⟩ := z
    exact .inr ⟨u, by rw [e']⟩
theorem SyA.obLen (h : SyA CS CP CH H x w S τ cnt) (ho : H w.ob = some (.dK okvs)) : okvs.length ≤ 1001 := by
  obtain ⟨kvs, f, h1, h2, h3⟩ := h.obs
  rw [ho] at h1
  cases h1
  refine h2.len fun i hi => ?_
  have z := h3 i
  cases e : f i with
  | none => rw [e] at hi; cases hi
  | some v =>
    rw [e] at z
    have := z.1
    have := h.bo
    omega
theorem UsrR.len {c : Int → Nat} {kvs : List (Key × V)} (h : UsrR H u c) (e : H u = some (.dK kvs)) : kvs.length ≤ 512 := by
  obtain ⟨kvs', f, h1, h2, h3, h4⟩ := h
  rw [e] at h1
  cases h1
  refine h2.len fun i hi => ?_
  rw [h3 i] at hi
  by_cases z : c i = 0
  · rw [if_pos z] at hi; cases hi
  · have := h4 i z
    omega
/-- a dict among the system's changes, one of users -/
theorem SyA.putUsr (h : SyA CS CP CH H x w S τ cnt) (ho : H w.ob = some (.dK okvs)) (hu : valV okvs (Sum.inl k) = some (.ref u)) {c' : Int → Nat} {kvs' : List (Key × V)} (r : UsrR (upd H u (.dK kvs')) u c') (ne : ∃ i, c' i ≠ 0) :
    SyA CS CP CH (upd H u (.dK kvs')) x w S τ (setC cnt k c') := by
  obtain ⟨tu, ⟨kvs0, f0, hd, _⟩, _, bk⟩ := h.usr ho hu
  have im : ImmK H (upd H u (.dK kvs')) := ImmK.upd hd rfl
  have at_ : ∀ {b : Addr} {g : Tag}, τ b = some g → g ≠ .usr k → (upd H u (.dK kvs')) b = H b := fun t n => upd_ne (ne_tag t tu n)
  refine ⟨(at_ h.tx (by simp)).trans h.hx, h.tx, h.tt, h.to, h.tg, h.tf, ?_, ?_, (at_ h.tg (by simp)).trans h.ogs, ?_, h.bp, h.bo, fun b g e' => ?_, h.his.keep (fun b g t c o e => by rw [at_ t (by rcases c with c | c | c <;> rw [c] <;> simp)]; exact e) (fun b g t => t)⟩
  · obtain ⟨kvs, f, h1, h2, h3⟩ := h.tabs
    exact ⟨kvs, f, (at_ h.tt (by simp)).trans h1, h2, fun j => (h3 j).keep im (fun d td _ => ⟨at_ td (by simp), rfl⟩) (Int.le_refl _)⟩
  · obtain ⟨kvs, f, h1, h2, h3⟩ := h.obs
    rw [ho] at h1
    cases h1
    refine ⟨okvs, f, (at_ h.to (by simp)).trans ho, h2, fun j => ?_⟩
    by_cases ej : j = k
    · subst ej
      rw [← h2.val j, hu]
      show ObjO _ τ S.o j (if j = j then c' else cnt j) _
      rw [if_pos rfl]
      exact ⟨bk, ne, u, rfl, tu, r⟩
    · show ObjO _ τ S.o j (if j = k then c' else cnt j) _
      rw [if_neg ej]
      exact (h3 j).keep (fun d td _ => ⟨at_ td (fun z => ej (Tag.usr.inj z)), rfl⟩) (Int.le_refl _)
  · obtain ⟨kvs, h1, h2⟩ := h.fis
    exact ⟨kvs, (at_ h.tf (by simp)).trans h1, h2⟩
  · rcases h.own b g e' with z | ⟨o, z1, z2⟩
    · exact .inl z
    · by_cases bx : b = u
      · exact .inr ⟨.dK kvs', by rw [bx, upd_same], rfl⟩
      · exact .inr ⟨o, by rw [upd_ne bx]; exact z1, z2⟩
/-- a dict of users that is not looked at any more -/
theorem SyA.garb (h : SyA CS CP CH H x w S τ cnt) (ho : H w.ob = some (.dK okvs)) (hu : valV okvs (Sum.inl k) = none) (tu : τ u = some (.usr k)) {kvs0 kvs' : List (Key × V)} (hd : H u = some (.dK kvs0)) : SyA CS CP CH (upd H u (.dK kvs')) x w S τ cnt := by
  have im : ImmK H (upd H u (.dK kvs')) := ImmK.upd hd rfl
  have at_ : ∀ {b : Addr} {g : Tag}, τ b = some g → g ≠ .usr k → (upd H u (.dK kvs')) b = H b := fun t n => upd_ne (ne_tag t tu n)
  refine ⟨(at_ h.tx (by simp)).trans h.hx, h.tx, h.tt, h.to, h.tg, h.tf, ?_, ?_, (at_ h.tg (by simp)).trans h.ogs, ?_, h.bp, h.bo, fun b g e' => ?_, h.his.keep (fun b g t c o e => by rw [at_ t (by rcases c with c | c | c <;> rw [c] <;> simp)]; exact e) (fun b g t => t)⟩
  · obtain ⟨kvs, f, h1, h2, h3⟩ := h.tabs
    exact ⟨kvs, f, (at_ h.tt (by simp)).trans h1, h2, fun j => (h3 j).keep im (fun d td _ => ⟨at_ td (by simp), rfl⟩) (Int.le_refl _)⟩
  · obtain ⟨kvs, f, h1, h2, h3⟩ := h.obs
    rw [ho] at h1
    cases h1
    refine ⟨okvs, f, (at_ h.to (by simp)).trans ho, h2, fun j => ?_⟩
    by_cases ej : j = k
    · subst ej
      have z := h3 j
      rw [← h2.val j, hu] at z ⊢
      exact z
    · exact (h3 j).keep (fun d td _ => ⟨at_ td (fun z => ej (Tag.usr.inj z)), rfl⟩) (Int.le_refl _)
  · obtain ⟨kvs, h1, h2⟩ := h.fis
    exact ⟨kvs, (at_ h.tf (by simp)).trans h1, h2⟩
  · rcases h.own b g e' with z | ⟨o, z1, z2⟩
    · exact .inl z
    · by_cases bx : b = u
      · exact .inr ⟨.dK kvs', by rw [bx, upd_same], rfl⟩
      · exact .inr ⟨o, by rw [upd_ne bx]; exact z1, z2⟩
/-- the dict of the objects changes -/
theorem SyA.putOb (h : SyA CS CP CH H x w S τ cnt) (ho : H w.ob = some (.dK okvs)) {okvs' : List (Key × V)} {τ' : Tm} {cnt' : Int → Int → Nat} (ht : ∀ b g, τ b = some g → τ' b = some g) (ht' : ∀ b g, τ' b = some g → τ b = some g ∨ (b ≠ w.ob ∧ ∃ o, H b = some o ∧ isBox o = true))
    (r : ObR (upd H w.ob (.dK okvs')) τ' w.ob S.o cnt') : SyA CS CP CH (upd H w.ob (.dK okvs')) x w S τ' cnt' := by
  have im : ImmK H (upd H w.ob (.dK okvs')) := ImmK.upd ho rfl
  have at_ : ∀ {b : Addr} {g : Tag}, τ b = some g → g ≠ .objs → (upd H w.ob (.dK okvs')) b = H b := fun t n => upd_ne (ne_tag t h.to n)
  refine ⟨(at_ h.tx (by simp)).trans h.hx, ht _ _ h.tx, ht _ _ h.tt, ht _ _ h.to, ht _ _ h.tg, ht _ _ h.tf, ?_, r, (at_ h.tg (by simp)).trans h.ogs, ?_, h.bp, h.bo, fun b g e' => ?_, h.his.keep (fun b g t c o e => by rw [at_ t (by rcases c with c | c | c <;> rw [c] <;> simp)]; exact e) ht⟩
  · obtain ⟨kvs, f, h1, h2, h3⟩ := h.tabs
    exact ⟨kvs, f, (at_ h.tt (by simp)).trans h1, h2, fun j => (h3 j).keep im (fun d td _ => ⟨at_ td (by simp), (ht _ _ td).trans td.symm⟩) (Int.le_refl _)⟩
  · obtain ⟨kvs, h1, h2⟩ := h.fis
    exact ⟨kvs, (at_ h.tf (by simp)).trans h1, h2⟩
  · by_cases bo : b = w.ob
    · exact .inr ⟨.dK okvs', by rw [bo, upd_same], rfl⟩
    · rcases ht' b g e' with z | ⟨_, o, z1, z2⟩
      · rcases h.own b g z with y | ⟨o, z1, z2⟩
        · exact .inl y
        · exact .inr ⟨o, by rw [upd_ne bo]; exact z1, z2⟩
      · exact .inr ⟨o, by rw [upd_ne bo]; exact z1, z2⟩
theorem SyA.newUsr (h : SyA CS CP CH H x w S τ cnt) (ho : H w.ob = some (.dK okvs)) (hu : valV okvs (Sum.inl k) = none) (bk : 1 ≤ k ∧ k ≤ S.o) (tu : τ u = none) {c' : Int → Nat} (r : UsrR H u c') (ne : ∃ i, c' i ≠ 0) :
    SyA CS CP CH (upd H w.ob (.dK (putK okvs (Sum.inl k) (.ref u)))) x w S (setTag τ u (.usr k)) (setC cnt k c') := by
  have nu : ∀ {b : Addr} {g : Tag}, τ b = some g → b ≠ u := fun t e => by rw [e, tu] at t; cases t
  have neu : u ≠ w.ob := (nu h.to).symm
  obtain ⟨ukvs, uf, hu1, hu2⟩ := id r
  refine h.putOb ho (fun b g t => by rw [setTag_ne (nu t)]; exact t) (fun b g t => ?_) ?_
  · by_cases e : b = u
    · rw [e]
      exact .inr ⟨neu, _, hu1, rfl⟩
    · rw [setTag_ne e] at t
      exact .inl t
  · obtain ⟨kvs, f, h1, h2, h3⟩ := h.obs
    rw [ho] at h1
    cases h1
    refine ⟨_, _, upd_same, h2.put k (.ref u), fun j => ?_⟩
    by_cases ej : j = k
    · subst ej
      simp only [if_pos]
      show ObjO _ _ S.o j (if j = j then c' else cnt j) _
      rw [if_pos rfl]
      exact ⟨bk, ne, u, rfl, setTag_same, r.keep (upd_ne neu)⟩
    · simp only [if_neg ej]
      show ObjO _ _ S.o j (if j = k then c' else cnt j) _
      rw [if_neg ej]
      exact (h3 j).keep (fun d td _ => ⟨upd_ne (ne_tag td h.to (by simp)), setTag_ne (nu td)⟩) (Int.le_refl _)
theorem SyA.dropUsr (h : SyA CS CP CH H x w S τ cnt) (ho : H w.ob = some (.dK okvs)) : SyA CS CP CH (upd H w.ob (.dK (dropK okvs (Sum.inl k)))) x w S τ (setC cnt k fun _ => 0) := by
  refine h.putOb ho (fun b g t => t) (fun b g t => .inl t) ?_
  obtain ⟨kvs, f, h1, h2, h3⟩ := h.obs
  rw [ho] at h1
  cases h1
  refine ⟨_, _, upd_same, h2.drop k, fun j => ?_⟩
  by_cases ej : j = k
  · subst ej
    simp only [if_pos]
    show ObjO _ _ S.o j (if j = j then (fun _ => 0) else cnt j) _
    rw [if_pos rfl]
    exact fun _ => rfl
  · simp only [if_neg ej]
    show ObjO _ _ S.o j (if j = k then (fun _ => 0) else cnt j) _
    rw [if_neg ej]
    exact (h3 j).keep (fun d td _ => ⟨upd_ne (ne_tag td h.to (by simp)), rfl⟩) (Int.le_refl _)
end
/-- a page more, a page less -/
def incC (cnt : Int → Int → Nat) (g : Pg) : Int → Int → Nat := fun k i => cnt k i + cntO k i (some g)
def decC (cnt : Int → Int → Nat) (g : Pg) : Int → Int → Nat := fun k i => cnt k i - cntO k i (some g)
theorem cntO_no {g : Pg} (h : ∀ k, g.src ≠ .obj k) (k i : Int) : cntO k i (some g) = 0 := by
  simp [cntO, showsO, h k]
theorem cntO_is {g : Pg} {k0 i0 : Int} (h1 : g.sh = true) (h2 : g.src = .obj k0) (h3 : g.ix = some i0) (k i : Int) : cntO k i (some g) = if k = k0 ∧ i = i0 then 1 else 0 := by
  simp only [cntO, showsO, h1, h2, h3, Bool.true_and, Bool.and_eq_true, decide_eq_true_eq]
  by_cases e : k = k0 ∧ i = i0
  · obtain ⟨rfl, rfl⟩ := e
    simp
  · have : ¬ (Src.obj k0 = .obj k ∧ some i0 = some i) := fun z => e ⟨(Src.obj.inj z.1).symm, (Option.some.inj z.2).symm⟩
    rw [if_neg this, if_neg e]
end My
namespace My
open PySem L2
theorem SyA.fresh {CS CP CH : Addr} {H : Hp} {x : Addr} {w : Wh} {S : Sys} {τ : Tm} {cnt : Int → Int → Nat} (h : SyA CS CP CH H x w S τ cnt) {q : Addr} (hq : H q = none) : τ q = none := by
  cases e : τ q with
  | none => rfl
  | some g =>
    rcases h.own q g e with z | ⟨o, z, _⟩
    · rw [z, h.hx] at hq
      cases hq
    · rw [z] at hq
      cases hq
/-- pages and tuples are not the system's own -/
theorem SyA.immN {CS CP CH : Addr} {H : Hp} {x : Addr} {w : Wh} {S : Sys} {τ : Tm} {cnt : Int → Int → Nat} (h : SyA CS CP CH H x w S τ cnt) {b : Addr} {o : HO} (e : H b = some o) (i : isImm o = true) : τ b = none := by
  cases t : τ b with
  | none => rfl
  | some g =>
    rcases h.own b g t with z | ⟨o', z, z'⟩
    · rw [z, h.hx] at e
      cases e
      cases i
    · rw [z] at e
      cases e
      cases o <;> first | (cases i; done) | (cases z'; done) | (simp only [isImm, isBox, beq_iff_eq] at i z'; omega)
theorem SyA.imm {CS CP CH : Addr} {H H' : Hp} {x : Addr} {w : Wh} {S : Sys} {τ τ' : Tm} {cnt : Int → Int → Nat} (h : SyA CS CP CH H x w S τ cnt) (g : Go τ H τ' H') : ImmK H H' := fun b o e i => g.fr b o (h.immN e i) e
end My
namespace My
open PySem L2
def PgV (CP : Addr) (H : Hp) (v : V) : Option Pg → Prop
  | none => v = .non
  | some g => WfP g ∧ ∃ p, v = .ref p ∧ PgR CP H p g
theorem PgV.keep {CP : Addr} {H H' : Hp} {v : V} {g : Option Pg} (h : PgV CP H v g) (k : ImmK H H') : PgV CP H' v g := by
  cases g with
  | none => exact h
  | some g => obtain ⟨a, p, e, b⟩ := h; exact ⟨a, p, e, b.keep k⟩
def XsR (CP : Addr) (H : Hp) : List V → List Pg → Prop
  | [], [] => True
  | v :: xs, g :: gs => PgV CP H v (some g) ∧ XsR CP H xs gs
  | _, _ => False
theorem XsR.keep {CP : Addr} {H H' : Hp} (k : ImmK H H') : ∀ {xs : List V} {gs : List Pg}, XsR CP H xs gs → XsR CP H' xs gs
  | [], [], _ => True.intro
  | _ :: _, _ :: _, h => ⟨h.1.keep k, XsR.keep k h.2⟩
theorem XsR.snoc {CP : Addr} {H : Hp} {v : V} {g : Pg} (hv : PgV CP H v (some g)) : ∀ {xs : List V} {gs : List Pg}, XsR CP H xs gs → XsR CP H (xs ++ [v]) (gs ++ [g])
  | [], [], _ => ⟨hv, True.intro⟩
  | _ :: _, _ :: _, h => ⟨h.1, XsR.snoc hv h.2⟩
theorem XsR.get {CP : Addr} {H : Hp} : ∀ {xs : List V} {gs : List Pg} {j : Nat} {v : V}, XsR CP H xs gs → xs[j]? = some v → ∃ g, gs[j]? = some g ∧ PgV CP H v (some g)
  | _ :: _, g :: _, 0, _, h, e => by
    have e' := Option.some.inj e
    subst e'
    exact ⟨g, rfl, h.1⟩
  | _ :: xs, _ :: gs, j + 1, v, h, e => XsR.get (j := j) h.2 e
theorem XsR.length {CP : Addr} {H : Hp} : ∀ {xs : List V} {gs : List Pg}, XsR CP H xs gs → xs.length = gs.length
  | [], [], _ => rfl
  | _ :: _, _ :: _, h => congrArg (· + 1) (XsR.length h.2)
def LsR (CP : Addr) (H : Hp) : List (Key × V) → List (Int × Option Pg) → Prop
  | [], [] => True
  | kv :: ls, q :: ch => (kv.1 = Sum.inl q.1 ∧ PgV CP H kv.2 q.2) ∧ LsR CP H ls ch
  | _, _ => False
theorem LsR.keep {CP : Addr} {H H' : Hp} (k : ImmK H H') : ∀ {ls : List (Key × V)} {ch : List (Int × Option Pg)}, LsR CP H ls ch → LsR CP H' ls ch
  | [], [], _ => True.intro
  | _ :: _, _ :: _, h => ⟨⟨h.1.1, h.1.2.keep k⟩, LsR.keep k h.2⟩
theorem LsR.get {CP : Addr} {H : Hp} : ∀ {ls : List (Key × V)} {ch : List (Int × Option Pg)} {j : Nat} {kv : Key × V}, LsR CP H ls ch → ls[j]? = some kv → ∃ q, ch[j]? = some q ∧ kv.1 = Sum.inl q.1 ∧ PgV CP H kv.2 q.2
  | _ :: _, q :: _, 0, _, h, e => by
    have e' := Option.some.inj e
    subst e'
    exact ⟨q, rfl, h.1⟩
  | _ :: ls, _ :: ch, j + 1, v, h, e => LsR.get (j := j) h.2 e
theorem LsR.length {CP : Addr} {H : Hp} : ∀ {ls : List (Key × V)} {ch : List (Int × Option Pg)}, LsR CP H ls ch → ls.length = ch.length
  | [], [], _ => rfl
  | _ :: _, _ :: _, h => congrArg (· + 1) (LsR.length h.2)
theorem LsR.snoc {CP : Addr} {H : Hp} {kv : Key × V} {q : Int × Option Pg} (h0 : kv.1 = Sum.inl q.1) (hv : PgV CP H kv.2 q.2) : ∀ {ls : List (Key × V)} {ch : List (Int × Option Pg)}, LsR CP H ls ch → LsR CP H (ls ++ [kv]) (ch ++ [q])
  | [], [], _ => ⟨⟨h0, hv⟩, True.intro⟩
  | _ :: _, _ :: _, h => ⟨h.1, LsR.snoc h0 hv h.2⟩
theorem appT_snoc (P : Tb) (ch : List (Int × Option Pg)) (q : Int × Option Pg) : appT P (ch ++ [q]) = setT (appT P ch) q.1 q.2 := by
  unfold appT
  rw [List.foldl_append]
  rfl
theorem take_succ {α : Type} {l : List α} {j : Nat} {x : α} (h : l[j]? = some x) : l.take (j + 1) = l.take j ++ [x] := by
  rw [List.take_succ, h]
  rfl
theorem setTab_two (S : Sys) (i : Int) (a b : Option Tb) : (S.setTab i a).setTab i b = S.setTab i b := by
  show ({ S with tabs := fun j => if j = i then b else if j = i then a else S.tabs j } : Sys) = { S with tabs := fun j => if j = i then b else S.tabs j }
  congr 1
  funext j
  by_cases e : j = i
  · rw [if_pos e, if_pos e]
  · rw [if_neg e, if_neg e, if_neg e]
theorem setTab_at (S : Sys) (i : Int) (a : Option Tb) : (S.setTab i a).tabs i = a := if_pos rfl
theorem setTab_ne {S : Sys} {i j : Int} {a : Option Tb} (h : j ≠ i) : (S.setTab i a).tabs j = S.tabs j := if_neg h
theorem setTab_id {S : Sys} {i : Int} {P : Tb} (h : S.tabs i = some P) : S.setTab i (some P) = S := by
  show ({ S with tabs := fun j => if j = i then some P else S.tabs j } : Sys) = S
  have : (fun j => if j = i then some P else S.tabs j) = S.tabs := by
    funext j
    by_cases e : j = i
    · rw [if_pos e, e, h]
    · rw [if_neg e]
  rw [this]
def cO (k i : Int) : Option Tb → Nat
  | some P => cntT P k i
  | none => 0
theorem cntS_eq (S : Sys) (k i : Int) : cntS S k i = sumN 1001 fun j => cO k i (S.tabs j) := by
  unfold cntS
  congr 1
theorem cntS_set {S : Sys} {i : Int} {a : Option Tb} (h0 : 0 ≤ i) (h1 : i ≤ 1000) (k m : Int) : cntS (S.setTab i a) k m + cO k m (S.tabs i) = cntS S k m + cO k m a := by
  rw [cntS_eq, cntS_eq]
  have := sumN_upd (n := 1001) (g := fun j => cO k m (S.tabs j)) (h := fun j => cO k m ((S.setTab i a).tabs j)) (i := i) h0 (by omega) (fun j hj => by simp only [setTab_ne hj])
  simp only [setTab_at] at this
  exact this
theorem cntS_app {S : Sys} {i : Int} {P : Tb} {ch : List (Int × Option Pg)} (h0 : 0 ≤ i) (h1 : i ≤ 1000) (e : S.tabs i = some P) (nd : (ch.map (·.1)).Nodup) (hb : ∀ q ∈ ch, 0 ≤ q.1 ∧ q.1 < 512) (k m : Int) :
    cntS S k m + occ (ch.filterMap (·.2)) k m - occ (ch.filterMap fun q => P q.1) k m = cntS (S.setTab i (some (appT P ch))) k m ∧ occ (ch.filterMap fun q => P q.1) k m ≤ cntS S k m := by
  have a := cntS_set (S := S) (a := some (appT P ch)) h0 h1 k m
  have b := appT_cnt ch P nd hb k m
  have c := occ_old ch P nd hb k m
  have d : cntT P k m ≤ cntS S k m := by
    have := cntS_set (S := S) (a := none) h0 h1 k m
    rw [e] at this
    simp only [cO] at this
    omega
  rw [e] at a
  simp only [cO] at a
  omega
theorem occ_le_take (L : List Pg) (j : Nat) (k i : Int) : occ (L.take j) k i ≤ occ L k i := by
  have : occ L k i = occ (L.take j) k i + occ (L.drop j) k i := by rw [← occ_append, List.take_append_drop]
  omega
end My
namespace My
open PySem L2
theorem tab_put {CP : Addr} {H : Hp} {d : Addr} {P : Tb} {kvs : List (Key × V)} {f : Int → Option V} {n : Int} {p : Addr} {g : Pg} (hd : H d = some (.dK kvs)) (di : DI kvs f) (pg : ∀ i, PgO CP H i (f i) (P i)) (b : 0 ≤ n ∧ n < 512) (wf : WfP g) (hp : PgR CP H p g) :
    TabR CP (upd H d (.dK (putK kvs (Sum.inl n) (.ref p)))) d (setT P n (some g)) := by
  have im : ImmK H (upd H d (.dK (putK kvs (Sum.inl n) (.ref p)))) := ImmK.upd hd rfl
  refine ⟨_, _, upd_same, di.put n _, fun i => ?_⟩
  by_cases e : i = n
  · subst e
    simp only [setT, if_pos]
    exact ⟨b, wf, p, rfl, hp.keep im⟩
  · simp only [setT, if_neg e]
    exact (pg i).keep im
theorem tab_drop {CP : Addr} {H : Hp} {d : Addr} {P : Tb} {kvs : List (Key × V)} {f : Int → Option V} {n : Int} (hd : H d = some (.dK kvs)) (di : DI kvs f) (pg : ∀ i, PgO CP H i (f i) (P i)) :
    TabR CP (upd H d (.dK (dropK kvs (Sum.inl n)))) d (setT P n none) := by
  have im : ImmK H (upd H d (.dK (dropK kvs (Sum.inl n)))) := ImmK.upd hd rfl
  refine ⟨_, _, upd_same, di.drop n, fun i => ?_⟩
  by_cases e : i = n
  · subst e
    simp only [setT, if_pos]
    exact True.intro
  · simp only [setT, if_neg e]
    exact (pg i).keep im
theorem setT_none {P : Tb} {n : Int} (h : P n = none) : setT P n none = P := by
  funext j
  show (if j = n then none else P j) = P j
  by_cases e : j = n
  · rw [if_pos e, e, h]
  · rw [if_neg e]
theorem PgO.none_iff {CP : Addr} {H : Hp} {i : Int} {v : Option V} {g : Option Pg} (h : PgO CP H i v g) : v = none ↔ g = none := by
  match v, g, h with
  | none, none, _ => exact ⟨fun _ => rfl, fun _ => rfl⟩
  | some v, some g, _ => exact ⟨fun z => (nomatch z), fun z => (nomatch z)⟩
end My
namespace My
open PySem L2
/-- what a dict's keys among the pages are -/
def KS (f : Int → Bool) (kvs : List (Key × V)) : Prop := ∀ k : Int, (valV kvs (Sum.inl k)).isSome = f k
/-- how many pages up to the n-th are free in a row -/
def runN (f : Int → Bool) : Nat → Int
  | 0 => 0
  | n + 1 => if f (n : Int) then 0 else runN f n + 1
def runs (f : Int → Bool) (n : Nat) : List Int := (List.range n).map fun i => runN f (i + 1)
theorem runs_succ (f : Int → Bool) (n : Nat) : runs f (n + 1) = runs f n ++ [runN f (n + 1)] := by
  unfold runs
  rw [List.range_succ, List.map_append]
  rfl
theorem runN_at (f : Int → Bool) (n : Nat) : 0 ≤ runN f n ∧ runN f n ≤ n := by
  induction n with
  | zero => exact ⟨Int.le_refl _, Int.le_refl _⟩
  | succ n ih =>
    unfold runN
    split <;> omega
/-- the first page of the lowest gap -/
def fits (f : Int → Bool) (c : Int) : V := match (List.range 512).find? (fun i => runN f (i + 1) == c) with
  | some i => .int ((i : Int) - c + 1)
  | none => .non
theorem fits_at {f : Int → Bool} {c : Int} {i : Nat} (hi : i < 512) (he : runN f (i + 1) = c) (hb : ∀ j, j < i → runN f (j + 1) ≠ c) : fits f c = .int ((i : Int) - c + 1) := by
  have : (List.range 512).find? (fun i => runN f (i + 1) == c) = some i := by
    rw [List.find?_range_eq_some]
    refine ⟨by simpa using he, List.mem_range.mpr hi, fun j hj => ?_⟩
    have := hb j hj
    simpa using this
  unfold fits
  rw [this]
theorem fits_no {f : Int → Bool} {c : Int} (hb : ∀ j, j < 512 → runN f (j + 1) ≠ c) : fits f c = .non := by
  have : (List.range 512).find? (fun i => runN f (i + 1) == c) = none := by
    rw [List.find?_eq_none]
    intro j hj
    have := hb j (List.mem_range.mp hj)
    simpa using this
  unfold fits
  rw [this]
def placeV (f : Int → Bool) (c : Int) (at_ : V) : V := if at_ = .non then fits f c else at_
theorem fits_any (f : Int → Bool) (c : Int) (H : Hp) : AnyV H (fits f c) ∧ (fits f c = .non ∨ ∃ i, fits f c = .int i) := by
  unfold fits
  split
  · exact ⟨.int _, .inr ⟨_, rfl⟩⟩
  · exact ⟨.non, .inl rfl⟩
/-- whether a value is one of some texts -/
def isW (xs : List V) (v : V) : Bool := isS v && inV v xs
abbrev FO : List V := [.str "file", .str "object"]
abbrev RTS : List V := [.str "none", .str "r", .str "rw"]
def SrcC (NP NF : Addr) (H : Hp) (fls : Str → Bool) (cnt : Int → Int → Nat) (sov : V) (sh : Bool) (E : XK) (K : Src → Prop) : Prop :=
  (sov = .non → K .non) ∧ ((sov ≠ .non ∧ ¬ ∃ a k nm, sov = .ref a ∧ H a = some (.tup [k, nm])) → Rz NP "part" (.str "source") H E) ∧
  ∀ a kd nm, sov = .ref a → H a = some (.tup [kd, nm]) → AnyV H kd ∧ AnyV H nm ∧ (isW FO kd = false → Rz NP "part" (.str "source") H E) ∧
    (kd = .str "file" → (∀ n, nm = .str n → fls n = true → K (.file n)) ∧ ((∀ n, nm = .str n → fls n = false) → Rz NF "name" nm H E)) ∧
    (kd = .str "object" → (∀ j, nm = .int j → sh = true → (∃ i, cnt j i ≠ 0) → K (.obj j)) ∧ (¬ (sh = true ∧ ∃ j, nm = .int j ∧ ∃ i, cnt j i ≠ 0) → Rz NP "part" (.str "source") H E))
theorem SrcC.mono {NP NF : Addr} {H : Hp} {fls : Str → Bool} {cnt : Int → Int → Nat} {sov : V} {sh : Bool} {E : XK} {K K' : Src → Prop} (h : SrcC NP NF H fls cnt sov sh E K)
    (k : ∀ s, srcR H sov s → (∀ j, s = .obj j → sh = true ∧ ∃ i, cnt j i ≠ 0) → (∀ n, s = .file n → fls n = true) → K s → K' s) : SrcC NP NF H fls cnt sov sh E K' := by
  obtain ⟨h1, h2, h3⟩ := h
  refine ⟨fun e => k _ e (fun j z => by cases z) (fun j z => by cases z) (h1 e), h2, fun a kd nm e1 e2 => ?_⟩
  obtain ⟨a1, a2, a3, a4, a5⟩ := h3 a kd nm e1 e2
  refine ⟨a1, a2, a3, fun e => ⟨fun n en hn => ?_, (a4 e).2⟩, fun e => ⟨fun j ej hs hc => ?_, (a5 e).2⟩⟩
  · refine k (.file n) ⟨a, e1, ?_⟩ (fun j z => by cases z) (fun j z => by cases z; exact hn) ((a4 e).1 n en hn)
    rw [e2, e, en]
  · refine k (.obj j) ⟨a, e1, ?_⟩ (fun j' z => ?_) (fun j z => by cases z) ((a5 e).1 j ej hs hc)
    · rw [e2, e, ej]
    · cases z
      exact ⟨hs, hc⟩
theorem SrcC.same {NP NF : Addr} {H H' : Hp} {fls : Str → Bool} {cnt : Int → Int → Nat} {sov : V} {sh : Bool} {E : XK} {K : Src → Prop} (h : SrcC NP NF H fls cnt sov sh E K) (s : Same H H') (ha : AnyV H sov) : SrcC NP NF H' fls cnt sov sh E K := by
  obtain ⟨h1, h2, h3⟩ := h
  have back : ∀ {a : Addr} {xs : List V}, sov = .ref a → H' a = some (.tup xs) → H a = some (.tup xs) := fun e e' => by
    subst e
    cases ha with
    | lst z => rw [s _ _ z] at e'; cases e'
    | tup z => rw [s _ _ z] at e'; cases e'; exact z
    | dK z => rw [s _ _ z] at e'; cases e'
  refine ⟨h1, fun z => (h2 ⟨z.1, fun ⟨a, k, nm, e1, e2⟩ => z.2 ⟨a, k, nm, e1, s _ _ e2⟩⟩).same s, fun a kd nm e1 e2 => ?_⟩
  obtain ⟨a1, a2, a3, a4, a5⟩ := h3 a kd nm e1 (back e1 e2)
  exact ⟨a1.same s, a2.same s, fun z => (a3 z).same s, fun e => ⟨(a4 e).1, fun z => ((a4 e).2 z).same s⟩, fun e => ⟨(a5 e).1, fun z => ((a5 e).2 z).same s⟩⟩
def newCh (f : Int) (c : Nat) (g : Nat → Pg) : List (Int × Option Pg) := (List.range c).map fun (k : Nat) => (f + (k : Int), some (g k))
theorem newCh_succ (f : Int) (c : Nat) (g : Nat → Pg) : newCh f (c + 1) g = newCh f c g ++ [(f + (c : Int), some (g c))] := by
  unfold newCh
  rw [List.range_succ, List.map_append]
  rfl
theorem newCh_mem {f : Int} {c : Nat} {g : Nat → Pg} {q : Int × Option Pg} (h : q ∈ newCh f c g) : ∃ k, k < c ∧ q = (f + (k : Int), some (g k)) := by
  obtain ⟨k, hk, rfl⟩ := List.mem_map.mp h
  exact ⟨k, List.mem_range.mp hk, rfl⟩
theorem newCh_nod (f : Int) (c : Nat) (g : Nat → Pg) : ((newCh f c g).map (·.1)).Nodup := by
  unfold newCh
  rw [List.map_map]
  refine List.pairwise_map.mpr ?_
  refine List.nodup_range.imp fun {a b} h e => h ?_
  have : f + (a : Int) = f + (b : Int) := e
  omega
theorem LsR.val_none {CP : Addr} {H : Hp} {n : Int} : ∀ {ls : List (Key × V)} {ch : List (Int × Option Pg)}, LsR CP H ls ch → (∀ q ∈ ch, q.1 ≠ n) → valV ls (Sum.inl n) = none
  | [], [], _, _ => rfl
  | kv :: ls, q :: ch, h, hn => by
    rw [valV_neg (fun e => hn q List.mem_cons_self (by rw [h.1.1] at e; exact Sum.inl.inj e))]
    exact LsR.val_none h.2 fun z hz => hn z (List.mem_cons_of_mem _ hz)
def fl0 : Fl := ⟨false, false, false⟩
def newPg (r : Str) (sh : Bool) (s : Src) (i0 : Int) (k : Int) : Pg := ⟨r, sh, s, if s = .non then none else some (i0 + k), fl0⟩
def mapT (T : Tb) (f c : Int) (r : Str) (sh : Bool) (s : Src) (i0 : Int) : Tb := fun n => if f ≤ n ∧ n < f + c then some (newPg r sh s i0 (n - f)) else T n
theorem appT_new (T : Tb) (f : Int) (c : Nat) (r : Str) (sh : Bool) (s : Src) (i0 : Int) : appT T (newCh f c fun k => newPg r sh s i0 (k : Int)) = mapT T f (c : Int) r sh s i0 := by
  funext n
  unfold mapT
  split
  · rename_i h
    refine appT_in (newCh_nod _ _ _) ?_
    refine List.mem_map.mpr ⟨(n - f).toNat, List.mem_range.mpr (by omega), ?_⟩
    have e : (((n - f).toNat : Nat) : Int) = n - f := Int.toNat_of_nonneg (by omega)
    show (f + (((n - f).toNat : Nat) : Int), some (newPg r sh s i0 (((n - f).toNat : Nat) : Int))) = (n, some (newPg r sh s i0 (n - f)))
    rw [e, show f + (n - f) = n by omega]
  · rename_i h
    refine appT_out fun q hq e => ?_
    obtain ⟨k, hk, rfl⟩ := newCh_mem hq
    simp only at e
    omega
def mapS (S : Sys) (i : Int) (T : Tb) (f c : Int) (r : Str) (sh : Bool) (s : Src) (i0 : Int) : Sys :=
  let mk := sh && decide (s = .non)
  let S1 : Sys := { S with o := if mk = true then S.o + 1 else S.o }
  { S1.setTab i (some (mapT T f c r sh (if mk = true then .obj (S.o + 1) else s) i0)) with n := S.n + 1 }
theorem cntS_tabs {S S' : Sys} (e : S.tabs = S'.tabs) : cntS S = cntS S' := by
  unfold cntS
  rw [e]
theorem SyA.cntPos {CS CP CH : Addr} {H : Hp} {x : Addr} {w : Wh} {S : Sys} {τ : Tm} {cnt : Int → Int → Nat} (h : SyA CS CP CH H x w S τ cnt) {k i : Int} (c : cnt k i ≠ 0) : 1 ≤ k ∧ k ≤ S.o := by
  obtain ⟨kvs, f, h1, h2, h3⟩ := h.obs
  have z := h3 k
  cases e : f k with
  | none => rw [e] at z; exact absurd (z i) c
  | some v => rw [e] at z; exact z.1
end My
namespace My
open PySem L2
theorem eqV_str {a b : Str} (h : eqV (.str a) (.str b) = true) : b = a := by
  have h' : decide (a = b) = true := h
  exact (of_decide_eq_true h').symm
theorem inW_two {n a b : Str} (h : inV (.str n) [.str a, .str b] = true) : V.str n = .str a ∨ V.str n = .str b := by
  unfold inV at h
  rw [List.any_cons, List.any_cons, List.any_nil, Bool.or_false, Bool.or_eq_true] at h
  rcases h with z | z
  · exact .inl (by rw [eqV_str z])
  · exact .inr (by rw [eqV_str z])
end My
namespace My
open PySem L2
/-- both ways of a if t else b give the same value, the heap as it was -/
theorem tIf_val {t : TT} {ta tb : TE} {σ : St} {H : Hp} {Q : VK} {v : V} {b : Bool} (hc : ∀ Q' : Bool → Hp → Prop, Q' b H → t σ H Q') (h1 : b = true → ∀ Q' : VK, Q' v H → ta σ H Q') (h2 : b = false → ∀ Q' : VK, Q' v H → tb σ H Q') (k : Q v H) : tIf t ta tb σ H Q :=
  hc _ (iteB (fun e => h1 e _ k) (fun e => h2 e _ k))
end My
namespace My
open PySem L2
theorem tAndV_val {t u : TE} {σ : St} {H : Hp} {Q : VK} {b c : Bool} (h1 : ∀ Q' : VK, Q' (.bl b) H → t σ H Q') (h2 : b = true → ∀ Q' : VK, Q' (.bl c) H → u σ H Q') (k : Q (.bl (b && c)) H) : tAndV t u σ H Q :=
  h1 _ ⟨b, rfl, iteB (fun e => h2 e _ (by rw [e] at k; exact k)) (fun e => by rw [e] at k; exact k)⟩
theorem tIf_ex {t : TT} {ta tb : TE} {σ : St} {H : Hp} {Q : VK} {b : Bool} (Pv : V → Hp → Prop) (hc : ∀ Q' : Bool → Hp → Prop, Q' b H → t σ H Q') (h1 : b = true → ∀ Q' : VK, (∀ v H', Pv v H' → Q' v H') → ta σ H Q')
    (h2 : b = false → ∀ Q' : VK, (∀ v H', Pv v H' → Q' v H') → tb σ H Q') (k : ∀ v H', Pv v H' → Q v H') : tIf t ta tb σ H Q :=
  hc _ (iteB (fun e => h1 e _ k) (fun e => h2 e _ k))
theorem tIfS_ex {c : TT} {t u : TS} {D : Ends} {σ : St} {H : Hp} {b : Bool} (Pv : St → Hp → Prop) (hc : ∀ Q' : Bool → Hp → Prop, Q' b H → c σ H Q') (h1 : b = true → ∀ D' : Ends, (∀ σ' H', Pv σ' H' → D'.nx σ' H') → t D' σ H)
    (h2 : b = false → ∀ D' : Ends, (∀ σ' H', Pv σ' H' → D'.nx σ' H') → u D' σ H) (k : ∀ σ' H', Pv σ' H' → D.nx σ' H') : tIfS c t u D σ H :=
  hc _ (iteB (fun e => h1 e _ k) (fun e => h2 e _ k))
/-- a page laid anew by its __init__ -/
theorem same_made {H1 H2 : Hp} {y dy : Addr} {o u : HO} (hy : H1 y = none) (hdy : H1 dy = none) (b2 : But y (upd (upd H1 dy o) y u) H2) : Same H1 H2 := fun b o' ho => by
  refine b2 b o' (ne_of_none ho hy) ?_
  rw [upd_ne (ne_of_none ho hy), upd_ne (ne_of_none ho hdy)]
  exact ho
end My
namespace My
open PySem L2
theorem inW_three {n a b c : Str} (h : inV (.str n) [.str a, .str b, .str c] = true) : n = a ∨ n = b ∨ n = c := by
  unfold inV at h
  rw [List.any_cons, List.any_cons, List.any_cons, List.any_nil, Bool.or_false, Bool.or_eq_true, Bool.or_eq_true] at h
  rcases h with z | z | z
  · exact .inl (eqV_str z)
  · exact .inr (.inl (eqV_str z))
  · exact .inr (.inr (eqV_str z))
theorem okRts {r : Str} (h : isW RTS (.str r) = true) : PyData.strOk r = true := by
  have h' : inV (.str r) RTS = true := h
  rcases inW_three h' with rfl | rfl | rfl <;> decide +kernel
theorem SyA.okName {CS CP CH : Addr} {H : Hp} {x : Addr} {w : Wh} {S : Sys} {τ : Tm} {cnt : Int → Int → Nat} (h : SyA CS CP CH H x w S τ cnt) {n : Str} (e : S.fls n = true) : PyData.strOk n = true := by
  obtain ⟨_, _, _, _, z⟩ := h.fis
  exact z n e
/-- a dict comprehension over a walk -/
theorem dc_walk {J : It} {n : Nat} {G : Hp → Prop} {Y : Nat → Hp → V → Hp → Prop} (w : Walk J n G Y) {g : TG} {tt : TT} {tk tv : TE} {vs : List Nat} {σ : St} {H1 : Hp} {D : Addr} {Qd : Hp → Prop} (Pv : Nat → Hp → Prop) (start : Pv 0 (upd H1 D (.dK [])))
    (stands : ∀ i H, i ≤ n → Pv i H → G H) (turn : ∀ i x H H', i < n → Pv i H → Y i H x H' → g x (wipe σ vs) H' fun σ2 H2 => wipe σ2 vs = wipe σ vs ∧ tt σ2 H2 fun b H3 =>
      if b = true then tk σ2 H3 fun y H4 => tv σ2 H4 fun z H5 => ∃ kvs k, y = kV k ∧ H5 D = some (.dK kvs) ∧ kvs.length < sizeLine ∧ Pv (i + 1) (upd H5 D (.dK (putK kvs k z))) else Pv (i + 1) H3) (done_ : ∀ H, Pv n H → Qd H) :
    ∃ W : Nat → Nat → Hp → Prop, (∃ m, W 0 m (upd H1 D (.dK []))) ∧ ∀ i m H, W i m H → (J.stop i H ∧ Qd H) ∨ (J.go i H ∧ ∃ Nx : Hp → Prop, (∀ H', Nx H' → ∃ m', m' < m ∧ W (i + 1) m' H') ∧ ∀ x H', J.yld i H x H' → g x (wipe σ vs) H' fun σ2 H2 => wipe σ2 vs = wipe σ vs ∧ tt σ2 H2 fun b H3 =>
      if b = true then tk σ2 H3 fun y H4 => tv σ2 H4 fun z H5 => ∃ kvs k, y = kV k ∧ H5 D = some (.dK kvs) ∧ kvs.length < sizeLine ∧ Nx (upd H5 D (.dK (putK kvs k z))) else Nx H3) := by
  refine ⟨fun i m H => i + m = n ∧ Pv i H, ⟨n, Nat.zero_add n, start⟩, fun i m H ⟨e, pv'⟩ => ?_⟩
  have st := stands i H (by omega) pv'
  cases m with
  | zero =>
    have ei : i = n := by omega
    subst ei
    exact .inl ⟨w.stops H st, done_ H pv'⟩
  | succ m =>
    have lt : i < n := by omega
    exact .inr ⟨w.goes i H lt st, Pv (i + 1), fun H' z => ⟨m, Nat.lt_succ_self m, by omega, z⟩, fun x H' y => turn i x H H' lt pv' (w.yields i H x H' lt st y)⟩
def unmT (T : Tb) (f c : Int) : Tb := fun n => if f ≤ n ∧ n < f + c then none else T n
def delCh (T : Tb) (f : Int) (c : Nat) : List (Int × Option Pg) := ((List.range c).filter fun (k : Nat) => (T (f + (k : Int))).isSome).map fun (k : Nat) => (f + (k : Int), none)
theorem delCh_succ (T : Tb) (f : Int) (c : Nat) : delCh T f (c + 1) = delCh T f c ++ (if (T (f + (c : Int))).isSome = true then [(f + (c : Int), none)] else []) := by
  unfold delCh
  rw [List.range_succ, List.filter_append, List.map_append]
  congr 1
  rw [List.filter_cons]
  split <;> rfl
theorem delCh_mem {T : Tb} {f : Int} {c : Nat} {q : Int × Option Pg} (h : q ∈ delCh T f c) : ∃ k, k < c ∧ q = (f + (k : Int), none) ∧ (T (f + (k : Int))).isSome = true := by
  obtain ⟨k, hk, rfl⟩ := List.mem_map.mp h
  obtain ⟨h1, h2⟩ := List.mem_filter.mp hk
  exact ⟨k, List.mem_range.mp h1, rfl, h2⟩
theorem delCh_nod (T : Tb) (f : Int) (c : Nat) : ((delCh T f c).map (·.1)).Nodup := by
  unfold delCh
  rw [List.map_map]
  refine List.pairwise_map.mpr ((List.Pairwise.filter _ List.nodup_range).imp fun {a b} h e => h ?_)
  have : f + (a : Int) = f + (b : Int) := e
  omega
theorem delCh_length (T : Tb) (f : Int) (c : Nat) : (delCh T f c).length ≤ c := by
  unfold delCh
  rw [List.length_map]
  have := List.length_filter_le (fun (k : Nat) => (T (f + (k : Int))).isSome) (List.range c)
  rw [List.length_range] at this
  exact this
theorem appT_del (T : Tb) (f : Int) (c : Nat) : appT T (delCh T f c) = unmT T f (c : Int) := by
  funext n
  unfold unmT
  split
  · rename_i h
    have e : (((n - f).toNat : Nat) : Int) = n - f := Int.toNat_of_nonneg (by omega)
    have e2 : f + (((n - f).toNat : Nat) : Int) = n := by omega
    cases eT : T n with
    | none =>
      rw [appT_out fun q hq z => ?_, eT]
      obtain ⟨k, hk, rfl, hs⟩ := delCh_mem hq
      simp only at z
      rw [z, eT] at hs
      cases hs
    | some g =>
      refine appT_in (delCh_nod _ _ _) (List.mem_map.mpr ⟨(n - f).toNat, List.mem_filter.mpr ⟨List.mem_range.mpr (by omega), by rw [e2, eT]; rfl⟩, by rw [e2]⟩)
  · rename_i h
    refine appT_out fun q hq e => ?_
    obtain ⟨k, hk, rfl, _⟩ := delCh_mem hq
    simp only at e
    omega
def unmS (S : Sys) (i : Int) (T : Tb) (f c : Int) : Sys := { S.setTab i (some (unmT T f c)) with n := S.n + 1 }
end My
namespace My
open PySem L2
def dSrc : Src → PyData
  | .non => .none
  | .file n => .tuple [.str "file", .str n]
  | .obj k => .tuple [.str "object", .int k]
def dIx : Option Int → PyData
  | none => .none
  | some i => .int i
def dFl (f : Fl) : PyData := .tuple ((flL f).map PyData.str)
def dPg (g : Pg) : PyData := .tuple [.str g.r, .bool g.sh, dSrc g.src, dIx g.ix, dFl g.fl]
theorem dSrc_eqv (a b : Src) : PyData.eqv (dSrc a) (dSrc b) = decide (a = b) := by
  cases a with
  | non => cases b <;> rfl
  | file n =>
    cases b with
    | non => rfl
    | file m =>
      show ((Str.ofString "file" == Str.ofString "file") && ((n == m) && true)) = _
      rw [show (Str.ofString "file" == Str.ofString "file") = true by decide +kernel, Bool.true_and, Bool.and_true]
      by_cases e : n = m
      · rw [e, decide_eq_true rfl]; exact beq_self_eq_true m
      · rw [decide_eq_false (fun z => e (Src.file.inj z))]; exact beq_eq_false_iff_ne.mpr e
    | obj k =>
      show ((Str.ofString "file" == Str.ofString "object") && (false && true)) = _
      rw [show (Str.ofString "file" == Str.ofString "object") = false by decide +kernel]
      rfl
  | obj k =>
    cases b with
    | non => rfl
    | file m =>
      show ((Str.ofString "object" == Str.ofString "file") && (false && true)) = _
      rw [show (Str.ofString "object" == Str.ofString "file") = false by decide +kernel]
      rfl
    | obj j =>
      show ((Str.ofString "object" == Str.ofString "object") && ((k == j) && true)) = _
      rw [show (Str.ofString "object" == Str.ofString "object") = true by decide +kernel, Bool.true_and, Bool.and_true]
      by_cases e : k = j
      · rw [e, decide_eq_true rfl]; exact beq_self_eq_true j
      · rw [decide_eq_false (fun z => e (Src.obj.inj z))]; exact beq_eq_false_iff_ne.mpr e
theorem dIx_eqv (a b : Option Int) : PyData.eqv (dIx a) (dIx b) = decide (a = b) := by
  cases a with
  | none => cases b <;> rfl
  | some i =>
    cases b with
    | none => rfl
    | some j =>
      show (i == j) = _
      by_cases e : i = j
      · rw [e, decide_eq_true rfl]; exact beq_self_eq_true j
      · rw [decide_eq_false (fun z => e (Option.some.inj z))]; exact beq_eq_false_iff_ne.mpr e
theorem dFl_eqv (a b : Fl) : PyData.eqv (dFl a) (dFl b) = decide (a = b) := by
  obtain ⟨a1, a2, a3⟩ := a
  obtain ⟨b1, b2, b3⟩ := b
  cases a1 <;> cases a2 <;> cases a3 <;> cases b1 <;> cases b2 <;> cases b3 <;> decide +kernel
theorem dPg_eqv (a b : Pg) : PyData.eqv (dPg a) (dPg b) = decide (a = b) := by
  show ((a.r == b.r) && ((a.sh == b.sh) && (PyData.eqv (dSrc a.src) (dSrc b.src) && (PyData.eqv (dIx a.ix) (dIx b.ix) && (PyData.eqv (dFl a.fl) (dFl b.fl) && true))))) = _
  rw [dSrc_eqv, dIx_eqv, dFl_eqv, Bool.and_true]
  obtain ⟨r, sh, s, i, f⟩ := a
  obtain ⟨r', sh', s', i', f'⟩ := b
  simp only
  by_cases h1 : r = r'
  · by_cases h2 : sh = sh'
    · by_cases h3 : s = s'
      · by_cases h4 : i = i'
        · by_cases h5 : f = f'
          · subst h1 h2 h3 h4 h5
            simp
          · simp [h5]
        · simp [h4]
      · simp [h3]
    · simp [h2]
  · simp [h1]
theorem shapedPg {g : Pg} (h1 : PyData.strOk g.r = true) (h2 : ∀ n, g.src = .file n → PyData.strOk n = true) : SeqAt.shaped (dPg g) = true := by
  obtain ⟨r, sh, s, i, ⟨f1, f2, f3⟩⟩ := g
  simp only at h1 h2
  have o1 : PyData.strOk (Str.ofString "file") = true := by decide +kernel
  have o2 : PyData.strOk (Str.ofString "object") = true := by decide +kernel
  have o3 : PyData.strOk (Str.ofString "merge") = true := by decide +kernel
  have o4 : PyData.strOk (Str.ofString "stay") = true := by decide +kernel
  have o5 : PyData.strOk (Str.ofString "wipe") = true := by decide +kernel
  cases s with
  | non => cases i <;> cases f1 <;> cases f2 <;> cases f3 <;> simp [SeqAt.shaped, dPg, dSrc, dIx, dFl, flL, PyData.canLay0, PyData.canLayAll0, PyData.depth, PyData.depthAll, h1, o3, o4, o5]
  | file n =>
    have h3 := h2 n rfl
    cases i <;> cases f1 <;> cases f2 <;> cases f3 <;> simp [SeqAt.shaped, dPg, dSrc, dIx, dFl, flL, PyData.canLay0, PyData.canLayAll0, PyData.depth, PyData.depthAll, h1, h3, o1, o3, o4, o5]
  | obj k => cases i <;> cases f1 <;> cases f2 <;> cases f3 <;> simp [SeqAt.shaped, dPg, dSrc, dIx, dFl, flL, PyData.canLay0, PyData.canLayAll0, PyData.depth, PyData.depthAll, h1, o2, o3, o4, o5]
theorem dpSrc {K : PySem.W.Frag} {H : Hp} {v : V} {s : Src} (h : srcR H v s) : Dp K H v (dSrc s) := by
  cases s with
  | non => cases h; exact .non
  | file n => obtain ⟨a, rfl, e⟩ := h; exact .tup (SqT.of e) (.cons (.str _) (.cons (.str _) .nil))
  | obj k => obtain ⟨a, rfl, e⟩ := h; exact .tup (SqT.of e) (.cons (.str _) (.cons (.int _) .nil))
theorem dpIx {K : PySem.W.Frag} {H : Hp} (i : Option Int) : Dp K H (ixV i) (dIx i) := by
  cases i with
  | none => exact .non
  | some j => exact .int j
theorem dpStrs {K : PySem.W.Frag} {H : Hp} : ∀ l : List Str, DpAll K H (l.map V.str) (l.map PyData.str)
  | [] => .nil
  | x :: r => .cons (.str x) (dpStrs r)
theorem dpFl {K : PySem.W.Frag} {H : Hp} {a : Addr} {f : Fl} (h : H a = some (.tup ((flL f).map V.str))) : Dp K H (.ref a) (dFl f) := .tup (SqT.of h) (dpStrs _)
theorem dpPg {K : PySem.W.Frag} {H : Hp} {q : Addr} {g : Pg} {sv : V} {fa : Addr} (h : H q = some (.tup [.str g.r, .bl g.sh, sv, ixV g.ix, .ref fa])) (hs : srcR H sv g.src) (hf : H fa = some (.tup ((flL g.fl).map V.str))) : Dp K H (.ref q) (dPg g) :=
  .tup (SqT.of h) (.cons (.str _) (.cons (.bl _) (.cons (dpSrc hs) (.cons (dpIx _) (.cons (dpFl hf) .nil)))))
def nxt (g : Pg) : Pg := { g with ix := g.ix.map (· + 1) }
def cont : Option Pg → Option Pg → Bool
  | some a, some b => decide (b = nxt a)
  | _, _ => false
def stepR (T : Tb) (acc : List (Int × Int)) (n : Int) : List (Int × Int) := match acc.getLast? with
  | some q => if cont (T (n - 1)) (T n) = true then acc.dropLast ++ [(q.1, q.2 + 1)] else acc ++ [(n, 1)]
  | none => [(n, 1)]
def keysT (T : Tb) : List Int := upTo 512 fun i => (T i).isSome
def regsK (T : Tb) (ks : List Int) : List (Int × Int) := ks.foldl (stepR T) []
def regsI (T : Tb) : List (Int × Int) := regsK T (keysT T)
theorem regsK_snoc (T : Tb) (ks : List Int) (n : Int) : regsK T (ks ++ [n]) = stepR T (regsK T ks) n := by
  unfold regsK
  rw [List.foldl_append]
  rfl
theorem stepR_ne (T : Tb) (acc : List (Int × Int)) (n : Int) : stepR T acc n ≠ [] := by
  unfold stepR
  split
  · split <;> simp
  · simp
theorem regsK_ne (T : Tb) {ks : List Int} (h : ks ≠ []) : regsK T ks ≠ [] := by
  have e : ks = ks.dropLast ++ [ks.getLast h] := (List.dropLast_concat_getLast h).symm
  rw [e, regsK_snoc]
  exact stepR_ne _ _ _
theorem regsK_start (T : Tb) : ∀ (ks : List Int), (∀ n ∈ ks, (T n).isSome = true) → ∀ q ∈ regsK T ks, (T q.1).isSome = true := by
  intro ks
  have : ∀ (l : List Int) (acc : List (Int × Int)), (∀ n ∈ l, (T n).isSome = true) → (∀ q ∈ acc, (T q.1).isSome = true) → ∀ q ∈ l.foldl (stepR T) acc, (T q.1).isSome = true := by
    intro l
    induction l with
    | nil => exact fun acc _ h => h
    | cons n r ih =>
      intro acc h1 h2
      refine ih _ (fun m hm => h1 m (List.mem_cons_of_mem _ hm)) fun q hq => ?_
      unfold stepR at hq
      have hn := h1 n List.mem_cons_self
      split at hq
      · rename_i z hz
        have hz' := h2 z (List.mem_of_getLast? hz)
        split at hq
        · rcases List.mem_append.mp hq with y | y
          · exact h2 q (List.dropLast_subset _ y)
          · rw [List.mem_singleton.mp y]
            exact hz'
        · rcases List.mem_append.mp hq with y | y
          · exact h2 q y
          · rw [List.mem_singleton.mp y]
            exact hn
      · rw [List.mem_singleton.mp hq]
        exact hn
  exact fun h => this ks [] h fun q hq => (nomatch hq)
theorem lt_take {ks : List Int} (h : ks.Pairwise (· < ·)) {i : Nat} {n m : Int} (hn : ks[i]? = some n) (hm : m ∈ ks) (lt : m < n) : m ∈ ks.take i := by
  rw [← List.take_append_drop i ks] at hm
  rcases List.mem_append.mp hm with z | z
  · exact z
  · obtain ⟨j, hj⟩ := List.mem_iff_getElem?.mp z
    rw [List.getElem?_drop] at hj
    obtain ⟨h1, e1⟩ := List.getElem?_eq_some_iff.mp hn
    obtain ⟨h2, e2⟩ := List.getElem?_eq_some_iff.mp hj
    cases j with
    | zero =>
      rw [Nat.add_zero] at hj
      rw [hn] at hj
      have := Option.some.inj hj
      omega
    | succ j =>
      have := List.pairwise_iff_getElem.mp h i (i + (j + 1)) h1 h2 (by omega)
      rw [e1, e2] at this
      omega
def RowR (H : Hp) (v : V) (q : (Int × Int) × Pg) : Prop := ∃ t sv fa, v = .ref t ∧ H t = some (.tup [.int q.1.1, .int q.1.2, .str q.2.r, .bl q.2.sh, sv, ixV q.2.ix, .ref fa]) ∧ srcR H sv q.2.src ∧ H fa = some (.tup ((flL q.2.fl).map V.str))
def RowsR (H : Hp) : List V → List ((Int × Int) × Pg) → Prop
  | [], [] => True
  | v :: vs, q :: qs => RowR H v q ∧ RowsR H vs qs
  | _, _ => False
theorem RowR.keep {H H' : Hp} {v : V} {q : (Int × Int) × Pg} (k : ImmK H H') (h : RowR H v q) : RowR H' v q := by
  obtain ⟨t, sv, fa, e, e1, e2, e3⟩ := h
  exact ⟨t, sv, fa, e, k _ _ e1 rfl, e2.keep k, k _ _ e3 rfl⟩
theorem RowsR.keep {H H' : Hp} (k : ImmK H H') : ∀ {vs : List V} {qs : List ((Int × Int) × Pg)}, RowsR H vs qs → RowsR H' vs qs
  | [], [], _ => True.intro
  | _ :: _, _ :: _, h => ⟨h.1.keep k, RowsR.keep k h.2⟩
theorem RowsR.snoc {H : Hp} {v : V} {q : (Int × Int) × Pg} (hv : RowR H v q) : ∀ {vs : List V} {qs : List ((Int × Int) × Pg)}, RowsR H vs qs → RowsR H (vs ++ [v]) (qs ++ [q])
  | [], [], _ => ⟨hv, True.intro⟩
  | _ :: _, _ :: _, h => ⟨h.1, RowsR.snoc hv h.2⟩
theorem RowsR.length {H : Hp} : ∀ {vs : List V} {qs : List ((Int × Int) × Pg)}, RowsR H vs qs → vs.length = qs.length
  | [], [], _ => rfl
  | _ :: _, _ :: _, h => congrArg (· + 1) (RowsR.length h.2)
theorem RowsR.get {H : Hp} : ∀ {vs : List V} {qs : List ((Int × Int) × Pg)} {j : Nat} {v : V}, RowsR H vs qs → vs[j]? = some v → ∃ q, qs[j]? = some q ∧ RowR H v q
  | _ :: _, q :: _, 0, _, h, e => by
    have e' := Option.some.inj e
    subst e'
    exact ⟨q, rfl, h.1⟩
  | _ :: vs, _ :: qs, j + 1, v, h, e => RowsR.get (j := j) h.2 e
def withP (T : Tb) (l : List (Int × Int)) : List ((Int × Int) × Pg) := l.filterMap fun q => (T q.1).map fun g => (q, g)
def regL (T : Tb) : List ((Int × Int) × Pg) := withP T (regsI T)
/-- two-item lists, each at its own place -/
def PrR (H : Hp) : List Addr → List (Int × Int) → Prop
  | [], [] => True
  | p :: ps, q :: qs => H p = some (.lst [.int q.1, .int q.2]) ∧ PrR H ps qs
  | _, _ => False
theorem PrR.keep {H H' : Hp} : ∀ {ps : List Addr} {qs : List (Int × Int)}, PrR H ps qs → (∀ p ∈ ps, ∀ o, H p = some o → H' p = some o) → PrR H' ps qs
  | [], [], _, _ => True.intro
  | p :: _, _ :: _, h, k => ⟨k p List.mem_cons_self _ h.1, PrR.keep h.2 fun p' hp' => k p' (List.mem_cons_of_mem _ hp')⟩
theorem PrR.snoc {H : Hp} {p : Addr} {q : Int × Int} (hv : H p = some (.lst [.int q.1, .int q.2])) : ∀ {ps : List Addr} {qs : List (Int × Int)}, PrR H ps qs → PrR H (ps ++ [p]) (qs ++ [q])
  | [], [], _ => ⟨hv, True.intro⟩
  | _ :: _, _ :: _, h => ⟨h.1, PrR.snoc hv h.2⟩
theorem PrR.unsnoc {H : Hp} {p : Addr} : ∀ {ps : List Addr} {qs : List (Int × Int)}, PrR H (ps ++ [p]) qs → ∃ qs' q, qs = qs' ++ [q] ∧ PrR H ps qs' ∧ H p = some (.lst [.int q.1, .int q.2])
  | [], [q], h => ⟨[], q, rfl, True.intro, h.1⟩
  | [], [], h => h.elim
  | [], _ :: _ :: _, h => h.2.elim
  | a :: ps, [], h => h.elim
  | a :: ps, q :: qs, h => by
    obtain ⟨qs', q', e, h1, h2⟩ := PrR.unsnoc (ps := ps) h.2
    exact ⟨q :: qs', q', by rw [e]; rfl, ⟨h.1, h1⟩, h2⟩
theorem PrR.length {H : Hp} : ∀ {ps : List Addr} {qs : List (Int × Int)}, PrR H ps qs → ps.length = qs.length
  | [], [], _ => rfl
  | _ :: _, _ :: _, h => congrArg (· + 1) (PrR.length h.2)
theorem PrR.get {H : Hp} : ∀ {ps : List Addr} {qs : List (Int × Int)} {j : Nat} {p : Addr}, PrR H ps qs → ps[j]? = some p → ∃ q, qs[j]? = some q ∧ H p = some (.lst [.int q.1, .int q.2])
  | _ :: _, q :: _, 0, _, h, e => by
    have e' := Option.some.inj e
    subst e'
    exact ⟨q, rfl, h.1⟩
  | _ :: ps, _ :: qs, j + 1, v, h, e => PrR.get (j := j) h.2 e
end My
namespace My
open PySem L2
/-- a test that leaves the heap as it was but for new things -/
theorem tIfS_s {c : TT} {t u : TS} {D : Ends} {σ : St} {H : Hp} {b : Bool} (hc : ∀ Q' : Bool → Hp → Prop, (∀ H', Same H H' → Q' b H') → c σ H Q') (h1 : b = true → ∀ H', Same H H' → t D σ H')
    (h2 : b = false → ∀ H', Same H H' → u D σ H') : tIfS c t u D σ H :=
  hc _ fun H' s => iteB (fun e => h1 e H' s) (fun e => h2 e H' s)
theorem withP_snoc (T : Tb) (l : List (Int × Int)) (q : Int × Int) {g : Pg} (e : T q.1 = some g) : withP T (l ++ [q]) = withP T l ++ [(q, g)] := by
  unfold withP
  rw [List.filterMap_append]
  congr 1
  simp [e]
theorem withP_length (T : Tb) (l : List (Int × Int)) : (withP T l).length ≤ l.length := List.length_filterMap_le _ _
end My
namespace My
open PySem L2
def S0 : Sys := ⟨0, 0, 0, fun _ => none, fun _ => false⟩
theorem cntS_S0 (k i : Int) : cntS S0 k i = 0 := by
  rw [cntS_eq]
  exact sumN_zero.mpr fun j _ _ => rfl
end My
namespace My
open PySem L2
/-- the list of the locked items is a new one -/
theorem SyA.putHis {CS CP CH : Addr} {H : Hp} {x : Addr} {w : Wh} {S : Sys} {τ : Tm} {cnt : Int → Int → Nat} (h : SyA CS CP CH H x w S τ cnt) {dh dh' lk lk' : Addr} {y y' : Nat → V} (e : H w.hi = some (.ins CH dh (hisF w.ro lk y))) (hl : H lk' = some (.lst [])) (tl : τ lk' = none) :
    SyA CS CP CH (upd H w.hi (.ins CH dh' (hisF w.ro lk' y'))) x w S (setTag τ lk' .lks) cnt := by
  have th := h.his.th
  have tr := h.his.tr
  have ne : ∀ {b : Addr} {g : Tag}, τ b = some g → b ≠ lk' := fun t z => by rw [z, tl] at t; cases t
  have tg : ∀ {b : Addr} {g : Tag}, τ b = some g → setTag τ lk' .lks b = some g := fun t => by rw [setTag_ne (ne t)]; exact t
  have at_ : ∀ {b : Addr} {g : Tag}, τ b = some g → g ≠ .his → (upd H w.hi (.ins CH dh' (hisF w.ro lk' y'))) b = H b := fun t n => upd_ne (ne_tag t th n)
  have im : ImmK H (upd H w.hi (.ins CH dh' (hisF w.ro lk' y'))) := ImmK.upd e rfl
  have hlk : (upd H w.hi (.ins CH dh' (hisF w.ro lk' y'))) lk' = some (.lst []) := by rw [upd_ne (ne th).symm]; exact hl
  refine ⟨(at_ h.tx (by simp)).trans h.hx, tg h.tx, tg h.tt, tg h.to, tg h.tg, tg h.tf, ?_, ?_, (at_ h.tg (by simp)).trans h.ogs, ?_, h.bp, h.bo, fun b g e' => ?_, ⟨⟨dh', lk', y', upd_same, hlk, setTag_same⟩, (at_ tr (by simp)).trans h.his.ro, tg th, tg tr⟩⟩
  · obtain ⟨kvs, f, h1, h2, h3⟩ := h.tabs
    exact ⟨kvs, f, (at_ h.tt (by simp)).trans h1, h2, fun j => (h3 j).keep im (fun d td _ => ⟨at_ td (by simp), (tg td).trans td.symm⟩) (Int.le_refl _)⟩
  · obtain ⟨kvs, f, h1, h2, h3⟩ := h.obs
    exact ⟨kvs, f, (at_ h.to (by simp)).trans h1, h2, fun j => (h3 j).keep (fun d td _ => ⟨at_ td (by simp), (tg td).trans td.symm⟩) (Int.le_refl _)⟩
  · obtain ⟨kvs, h1, h2⟩ := h.fis
    exact ⟨kvs, (at_ h.tf (by simp)).trans h1, h2⟩
  · by_cases bl : b = lk'
    · exact .inr ⟨_, by rw [bl]; exact hlk, rfl⟩
    · rw [setTag_ne bl] at e'
      rcases h.own b g e' with z | ⟨o, z1, z2⟩
      · exact .inl z
      · by_cases bx : b = w.hi
        · rw [bx]; exact .inr ⟨_, upd_same, rfl⟩
        · exact .inr ⟨o, by rw [upd_ne bx]; exact z1, z2⟩
theorem SyA.goHis {CS CP CH : Addr} {H H1 : Hp} {x : Addr} {w : Wh} {S : Sys} {τ : Tm} {cnt : Int → Int → Nat} (h : SyA CS CP CH H x w S τ cnt) {dh dh' lk lk' : Addr} {y y' : Nat → V} (s1 : Same H H1) (e : H w.hi = some (.ins CH dh (hisF w.ro lk y))) (h0 : H lk' = none) (hl : H1 lk' = some (.lst [])) :
    Go τ H (setTag τ lk' .lks) (upd H1 w.hi (.ins CH dh' (hisF w.ro lk' y'))) := by
  have th := h.his.th
  refine ⟨fun b o n eb => ?_, fun b => ?_, fun b xs eb => ?_⟩
  · rw [upd_ne (fun z => by rw [z, th] at n; cases n)]
    exact s1 _ _ eb
  · by_cases z : b = lk'
    · rw [z]; exact .inr ⟨h.fresh h0, h0⟩
    · exact .inl (setTag_ne z)
  · rw [upd_ne (fun z => by rw [z, e] at eb; cases eb)]
    exact s1 _ _ eb
end My
set_option Elab.async false
set_option linter.all false
set_option maxRecDepth 100000
set_option maxHeartbeats 4000000
namespace My
open PySem L2
local macro_rules | `(tactic| walk_at "ds") => `(tactic| dsimp only [tSeq, tIfS, tTest, tB, tAnd, tOr, tNot, tAndV, tOrV, tNotV, tIf, tIsN, tNotN, tOp, tUn, tChain, rI, rI0, rU, tC, tCB, tCons, tNil, tAsg, gName, gSub, tRet, tRetN, tNext, tDrop, tLst, tTup, rIxL, rIxT, rSetL, tVar, tFld, tCall, tDGet, tDIn, tDNotIn, tNever, L2.start, List.map, List.replicate, List.length, List.append, List.cons_append, List.nil_append, List.set, Nat.sub])
local macro_rules | `(tactic| walk_at "hp") => `(tactic| first | assumption | exact upd_same | (refine Eq.trans (upd_ne (by first | assumption | (apply Ne.symm; assumption))) ?_; walk_at "hp"))
local macro_rules | `(tactic| walk_at "sd") => `(tactic| first
  | (show (_ : Int) ≠ 0; omega)
  | (refine (show CDivN _ _ from ⟨?_, ?_⟩) <;> omega)
  | (show CPow _ _; refine ⟨by omega, by omega, by omega⟩)
  | (show CMul _ _; exact Or.inl ⟨by omega, by omega⟩)
  | (show CMul _ _; exact Or.inr ⟨by omega, by omega⟩))
local macro_rules | `(tactic| walk_at "st") => `(tactic| first
  | refine ⟨_, rfl, ?_⟩
  | refine ⟨_, _, rfl, rfl, (by walk_at "sd"), ?_⟩
  | refine ⟨_, _, rfl, rfl, ?_⟩
  | refine ⟨_, _, _, _, rfl, rfl, SqL.of (by walk_at "hp"), rfl, ?_⟩
  | refine ⟨_, _, _, _, rfl, rfl, (by walk_at "hp"), rfl, ?_⟩
  | refine .inl ⟨_, rfl, ?_⟩
  | refine ⟨_, _, _, _, _, rfl, (by walk_at "hp"), (by assumption), (by assumption), rfl, ?_⟩
  | refine ⟨_, _, rfl, .inl (SqL.of (by walk_at "hp")), ?_⟩)
local macro_rules | `(tactic| walk_at "go") => `(tactic| repeat (first | walk_at "st" | (walk_at "ds"; walk_at "st")))
local macro_rules | `(tactic| walk_at "ni") => `(tactic| dsimp (config := { proj := false }) only [tNil, List.cons_append, List.nil_append])
def top (i : Nat) : Stmt := PySem.Challenge.pw_pageclass_k05_gaps.main.body.getD i (.Pass ⟨0, 0, 0, 0⟩)
abbrev s_NoProcess_init : Stmt := inClass (top 4) 0
abbrev n_NoProcess_init : List Str := ["self", "process"]
abbrev p_NoProcess_init : List Str := ["self", "process"]
theorem sc_NoProcess_init : FnScope n_NoProcess_init p_NoProcess_init (defScope s_NoProcess_init) := ⟨rfl, rfl, rfl, by decide +kernel, rfl, by decide +kernel, by decide +kernel⟩
abbrev s_NoPages_init : Stmt := inClass (top 5) 0
abbrev n_NoPages_init : List Str := ["self", "part"]
abbrev p_NoPages_init : List Str := ["self", "part"]
theorem sc_NoPages_init : FnScope n_NoPages_init p_NoPages_init (defScope s_NoPages_init) := ⟨rfl, rfl, rfl, by decide +kernel, rfl, by decide +kernel, by decide +kernel⟩
abbrev s_NoFile_init : Stmt := inClass (top 6) 0
abbrev n_NoFile_init : List Str := ["self", "name"]
abbrev p_NoFile_init : List Str := ["self", "name"]
theorem sc_NoFile_init : FnScope n_NoFile_init p_NoFile_init (defScope s_NoFile_init) := ⟨rfl, rfl, rfl, by decide +kernel, rfl, by decide +kernel, by decide +kernel⟩
abbrev s_Page_init : Stmt := inClass (top 11) 0
abbrev n_Page_init : List Str := ["self", "rights", "shared", "source", "index", "flags", "held", "stamp"]
abbrev p_Page_init : List Str := ["self", "rights", "shared", "source", "index", "flags", "held", "stamp"]
theorem sc_Page_init : FnScope n_Page_init p_Page_init (defScope s_Page_init) := ⟨rfl, rfl, rfl, by decide +kernel, rfl, by decide +kernel, by decide +kernel⟩
abbrev s_History_init : Stmt := inClass (top 17) 0
abbrev n_History_init : List Str := ["self"]
abbrev p_History_init : List Str := ["self"]
theorem sc_History_init : FnScope n_History_init p_History_init (defScope s_History_init) := ⟨rfl, rfl, rfl, by decide +kernel, rfl, by decide +kernel, by decide +kernel⟩
abbrev s_System_init : Stmt := inClass (top 60) 0
abbrev n_System_init : List Str := ["self", "frames", "slots", "strict"]
abbrev p_System_init : List Str := ["self", "frames", "slots", "strict"]
theorem sc_System_init : FnScope n_System_init p_System_init (defScope s_System_init) := ⟨rfl, rfl, rfl, by decide +kernel, rfl, by decide +kernel, by decide +kernel⟩
abbrev s_attributes : Stmt := top 12
abbrev n_attributes : List Str := ["page"]
abbrev p_attributes : List Str := ["page"]
theorem sc_attributes : FnScope n_attributes p_attributes (defScope s_attributes) := ⟨rfl, rfl, rfl, by decide +kernel, rfl, by decide +kernel, by decide +kernel⟩
abbrev s_has_object : Stmt := top 14
abbrev n_has_object : List Str := ["page"]
abbrev p_has_object : List Str := ["page"]
theorem sc_has_object : FnScope n_has_object p_has_object (defScope s_has_object) := ⟨rfl, rfl, rfl, by decide +kernel, rfl, by decide +kernel, by decide +kernel⟩
abbrev s_arrange_locked : Stmt := top 19
abbrev n_arrange_locked : List Str := ["history", "first", "stay", "item"]
abbrev p_arrange_locked : List Str := ["history"]
theorem sc_arrange_locked : FnScope n_arrange_locked p_arrange_locked (defScope s_arrange_locked) := ⟨rfl, rfl, rfl, by decide +kernel, rfl, by decide +kernel, by decide +kernel⟩
abbrev s_add_locked : Stmt := top 20
abbrev n_add_locked : List Str := ["history", "first", "end"]
abbrev p_add_locked : List Str := ["history", "first"]
theorem sc_add_locked : FnScope n_add_locked p_add_locked (defScope s_add_locked) := ⟨rfl, rfl, rfl, by decide +kernel, rfl, by decide +kernel, by decide +kernel⟩
abbrev s_this_step : Stmt := top 23
abbrev n_this_step : List Str := ["system"]
abbrev p_this_step : List Str := ["system"]
theorem sc_this_step : FnScope n_this_step p_this_step (defScope s_this_step) := ⟨rfl, rfl, rfl, by decide +kernel, rfl, by decide +kernel, by decide +kernel⟩
abbrev s_count_page : Stmt := top 27
abbrev n_count_page : List Str := ["system", "page", "held", "users"]
abbrev p_count_page : List Str := ["system", "page"]
theorem sc_count_page : FnScope n_count_page p_count_page (defScope s_count_page) := ⟨rfl, rfl, rfl, by decide +kernel, rfl, by decide +kernel, by decide +kernel⟩
abbrev s_discount_page : Stmt := top 29
abbrev n_discount_page : List Str := ["system", "page", "held"]
abbrev p_discount_page : List Str := ["system", "page"]
theorem sc_discount_page : FnScope n_discount_page p_discount_page (defScope s_discount_page) := ⟨rfl, rfl, rfl, by decide +kernel, rfl, by decide +kernel, by decide +kernel⟩
abbrev s_discount_user : Stmt := top 30
abbrev n_discount_user : List Str := ["system", "number", "index", "users"]
abbrev p_discount_user : List Str := ["system", "number", "index"]
theorem sc_discount_user : FnScope n_discount_user p_discount_user (defScope s_discount_user) := ⟨rfl, rfl, rfl, by decide +kernel, rfl, by decide +kernel, by decide +kernel⟩
abbrev s_replace_pages : Stmt := top 31
abbrev n_replace_pages : List Str := ["system", "process", "changes", "table", "replaced", "number", "page"]
abbrev p_replace_pages : List Str := ["system", "process", "changes"]
theorem sc_replace_pages : FnScope n_replace_pages p_replace_pages (defScope s_replace_pages) := ⟨rfl, rfl, rfl, by decide +kernel, rfl, by decide +kernel, by decide +kernel⟩
abbrev s_end_step : Stmt := top 32
abbrev n_end_step : List Str := ["system"]
abbrev p_end_step : List Str := ["system"]
theorem sc_end_step : FnScope n_end_step p_end_step (defScope s_end_step) := ⟨rfl, rfl, rfl, by decide +kernel, rfl, by decide +kernel, by decide +kernel⟩
abbrev s_is_integer : Stmt := top 34
abbrev n_is_integer : List Str := ["value", "low", "high"]
abbrev p_is_integer : List Str := ["value", "low", "high"]
theorem sc_is_integer : FnScope n_is_integer p_is_integer (defScope s_is_integer) := ⟨rfl, rfl, rfl, by decide +kernel, rfl, by decide +kernel, by decide +kernel⟩
abbrev s_is_word : Stmt := top 35
abbrev n_is_word : List Str := ["value", "words"]
abbrev p_is_word : List Str := ["value", "words"]
theorem sc_is_word : FnScope n_is_word p_is_word (defScope s_is_word) := ⟨rfl, rfl, rfl, by decide +kernel, rfl, by decide +kernel, by decide +kernel⟩
abbrev s_require : Stmt := top 36
abbrev n_require : List Str := ["valid", "part"]
abbrev p_require : List Str := ["valid", "part"]
theorem sc_require : FnScope n_require p_require (defScope s_require) := ⟨rfl, rfl, rfl, by decide +kernel, rfl, by decide +kernel, by decide +kernel⟩
abbrev s_table_of : Stmt := top 37
abbrev n_table_of : List Str := ["system", "process"]
abbrev p_table_of : List Str := ["system", "process"]
theorem sc_table_of : FnScope n_table_of p_table_of (defScope s_table_of) := ⟨rfl, rfl, rfl, by decide +kernel, rfl, by decide +kernel, by decide +kernel⟩
abbrev s_numbers_of : Stmt := top 38
abbrev n_numbers_of : List Str := ["first", "count"]
abbrev p_numbers_of : List Str := ["first", "count"]
theorem sc_numbers_of : FnScope n_numbers_of p_numbers_of (defScope s_numbers_of) := ⟨rfl, rfl, rfl, by decide +kernel, rfl, by decide +kernel, by decide +kernel⟩
abbrev s_file_of : Stmt := top 39
abbrev n_file_of : List Str := ["system", "name"]
abbrev p_file_of : List Str := ["system", "name"]
theorem sc_file_of : FnScope n_file_of p_file_of (defScope s_file_of) := ⟨rfl, rfl, rfl, by decide +kernel, rfl, by decide +kernel, by decide +kernel⟩
abbrev s_require_charge : Stmt := top 46
abbrev n_require_charge : List Str := ["system", "tables", "written"]
abbrev p_require_charge : List Str := ["system", "tables", "written"]
theorem sc_require_charge : FnScope n_require_charge p_require_charge (defScope s_require_charge) := ⟨rfl, rfl, rfl, by decide +kernel, rfl, by decide +kernel, by decide +kernel⟩
abbrev s_require_source : Stmt := top 48
abbrev n_require_source : List Str := ["system", "source", "shared", "kind", "named"]
abbrev p_require_source : List Str := ["system", "source", "shared"]
theorem sc_require_source : FnScope n_require_source p_require_source (defScope s_require_source) := ⟨rfl, rfl, rfl, by decide +kernel, rfl, by decide +kernel, by decide +kernel⟩
abbrev s_place_for : Stmt := top 49
abbrev n_place_for : List Str := ["table", "count", "at", "first"]
abbrev p_place_for : List Str := ["table", "count", "at"]
theorem sc_place_for : FnScope n_place_for p_place_for (defScope s_place_for) := ⟨rfl, rfl, rfl, by decide +kernel, rfl, by decide +kernel, by decide +kernel⟩
abbrev s_map_pages : Stmt := top 50
abbrev n_map_pages : List Str := ["system", "process", "count", "rights", "shared", "source", "index", "at", "table", "first", "makes_object", "shows", "pages"]
abbrev p_map_pages : List Str := ["system", "process", "count", "rights", "shared", "source", "index", "at"]
theorem sc_map_pages : FnScope n_map_pages p_map_pages (defScope s_map_pages) := ⟨rfl, rfl, rfl, by decide +kernel, rfl, by decide +kernel, by decide +kernel⟩
abbrev s_new_pages : Stmt := top 51
abbrev n_new_pages : List Str := ["first", "count", "page", "pages", "k", "index"]
abbrev p_new_pages : List Str := ["first", "count", "page"]
theorem sc_new_pages : FnScope n_new_pages p_new_pages (defScope s_new_pages) := ⟨rfl, rfl, rfl, by decide +kernel, rfl, by decide +kernel, by decide +kernel⟩
abbrev s_unmap : Stmt := top 52
abbrev n_unmap : List Str := ["system", "process", "first", "count", "table", "numbers", "number"]
abbrev p_unmap : List Str := ["system", "process", "first", "count"]
theorem sc_unmap : FnScope n_unmap p_unmap (defScope s_unmap) := ⟨rfl, rfl, rfl, by decide +kernel, rfl, by decide +kernel, by decide +kernel⟩
abbrev s_continues : Stmt := top 53
abbrev n_continues : List Str := ["last", "page", "index"]
abbrev p_continues : List Str := ["last", "page"]
theorem sc_continues : FnScope n_continues p_continues (defScope s_continues) := ⟨rfl, rfl, rfl, by decide +kernel, rfl, by decide +kernel, by decide +kernel⟩
abbrev s_regions : Stmt := top 54
abbrev n_regions : List Str := ["system", "process", "table", "runs", "number", "first", "count"]
abbrev p_regions : List Str := ["system", "process"]
theorem sc_regions : FnScope n_regions p_regions (defScope s_regions) := ⟨rfl, rfl, rfl, by decide +kernel, rfl, by decide +kernel, by decide +kernel⟩
abbrev s_free_runs : Stmt := top 55
abbrev n_free_runs : List Str := ["table", "runs", "run", "number"]
abbrev p_free_runs : List Str := ["table"]
theorem sc_free_runs : FnScope n_free_runs p_free_runs (defScope s_free_runs) := ⟨rfl, rfl, rfl, by decide +kernel, rfl, by decide +kernel, by decide +kernel⟩
abbrev s_lowest_gap : Stmt := top 56
abbrev n_lowest_gap : List Str := ["table", "count", "number", "run"]
abbrev p_lowest_gap : List Str := ["table", "count"]
theorem sc_lowest_gap : FnScope n_lowest_gap p_lowest_gap (defScope s_lowest_gap) := ⟨rfl, rfl, rfl, by decide +kernel, rfl, by decide +kernel, by decide +kernel⟩
abbrev s_gap : Stmt := top 57
abbrev n_gap : List Str := ["system", "process", "count", "table"]
abbrev p_gap : List Str := ["system", "process", "count"]
theorem sc_gap : FnScope n_gap p_gap (defScope s_gap) := ⟨rfl, rfl, rfl, by decide +kernel, rfl, by decide +kernel, by decide +kernel⟩
abbrev s_widest : Stmt := top 58
abbrev n_widest : List Str := ["system", "process"]
abbrev p_widest : List Str := ["system", "process"]
theorem sc_widest : FnScope n_widest p_widest (defScope s_widest) := ⟨rfl, rfl, rfl, by decide +kernel, rfl, by decide +kernel, by decide +kernel⟩
abbrev s_new_process : Stmt := top 61
abbrev n_new_process : List Str := ["system"]
abbrev p_new_process : List Str := ["system"]
theorem sc_new_process : FnScope n_new_process p_new_process (defScope s_new_process) := ⟨rfl, rfl, rfl, by decide +kernel, rfl, by decide +kernel, by decide +kernel⟩
abbrev s_spawn : Stmt := top 62
abbrev n_spawn : List Str := ["system", "process"]
abbrev p_spawn : List Str := ["system"]
theorem sc_spawn : FnScope n_spawn p_spawn (defScope s_spawn) := ⟨rfl, rfl, rfl, by decide +kernel, rfl, by decide +kernel, by decide +kernel⟩
abbrev s__law_well : Stmt := top 65
abbrev n__law_well : List Str := ["cell"]
abbrev p__law_well : List Str := ["cell"]
theorem sc__law_well : FnScope n__law_well p__law_well (defScope s__law_well) := ⟨rfl, rfl, rfl, by decide +kernel, rfl, by decide +kernel, by decide +kernel⟩
abbrev s__law_draw : Stmt := top 66
abbrev n__law_draw : List Str := ["well", "many", "digit", "prime", "number"]
abbrev p__law_draw : List Str := ["well", "many"]
theorem sc__law_draw : FnScope n__law_draw p__law_draw (defScope s__law_draw) := ⟨rfl, rfl, rfl, by decide +kernel, rfl, by decide +kernel, by decide +kernel⟩
abbrev s__law_one : Stmt := top 67
abbrev n__law_one : List Str := ["well", "some"]
abbrev p__law_one : List Str := ["well", "some"]
theorem sc__law_one : FnScope n__law_one p__law_one (defScope s__law_one) := ⟨rfl, rfl, rfl, by decide +kernel, rfl, by decide +kernel, by decide +kernel⟩
abbrev s__law_fits : Stmt := top 68
abbrev n__law_fits : List Str := ["space", "many", "free", "page"]
abbrev p__law_fits : List Str := ["space", "many"]
theorem sc__law_fits : FnScope n__law_fits p__law_fits (defScope s__law_fits) := ⟨rfl, rfl, rfl, by decide +kernel, rfl, by decide +kernel, by decide +kernel⟩
abbrev s__law_said : Stmt := top 69
abbrev n__law_said : List Str := ["ask", "e"]
abbrev p__law_said : List Str := ["ask"]
theorem sc__law_said : FnScope n__law_said p__law_said (defScope s__law_said) := ⟨rfl, rfl, rfl, by decide +kernel, rfl, by decide +kernel, by decide +kernel⟩
abbrev s__law_widest : Stmt := top 70
abbrev n__law_widest : List Str := ["space", "best", "free", "page"]
abbrev p__law_widest : List Str := ["space"]
theorem sc__law_widest : FnScope n__law_widest p__law_widest (defScope s__law_widest) := ⟨rfl, rfl, rfl, by decide +kernel, rfl, by decide +kernel, by decide +kernel⟩
abbrev s__law_refused : Stmt := top 71
abbrev n__law_refused : List Str := ["well", "system", "process", "odd"]
abbrev p__law_refused : List Str := ["well", "system", "process"]
theorem sc__law_refused : FnScope n__law_refused p__law_refused (defScope s__law_refused) := ⟨rfl, rfl, rfl, by decide +kernel, rfl, by decide +kernel, by decide +kernel⟩
abbrev s_law : Stmt := top 72
abbrev n_law : List Str := ["script", "cell", "well", "system", "process", "space", "k", "begin", "many", "page", "due"]
abbrev p_law : List Str := ["script"]
theorem sc_law : FnScope n_law p_law (defScope s_law) := ⟨rfl, rfl, rfl, by decide +kernel, rfl, by decide +kernel, by decide +kernel⟩
abbrev kw_System_init : List (Str × V) := [("frames", .non), ("slots", .non), ("strict", .bl false)]
abbrev kw_map_pages : List (Str × V) := [("rights", .str "rw"), ("shared", .bl false), ("source", .non), ("index", .int 0), ("at", .non)]
/-- the tuple of the rights, in the written part -/
def rightsIn (K : PySem.W.Frag) (a : Addr) : Bool := match K.lookup a with
  | some ⟨.type "tuple", _, .seq its _, _⟩ => (match its.toList with | [.str x _, .str y _, .str z _] => x == "none" && y == "r" && z == "rw" | _ => false)
  | _ => false
/-- where the top stands -/
structure Adr where
  a_attributes : Addr
  fd_attributes : FuncData
  a_has_object : Addr
  fd_has_object : FuncData
  a_arrange_locked : Addr
  fd_arrange_locked : FuncData
  a_add_locked : Addr
  fd_add_locked : FuncData
  a_this_step : Addr
  fd_this_step : FuncData
  a_count_page : Addr
  fd_count_page : FuncData
  a_discount_page : Addr
  fd_discount_page : FuncData
  a_discount_user : Addr
  fd_discount_user : FuncData
  a_replace_pages : Addr
  fd_replace_pages : FuncData
  a_end_step : Addr
  fd_end_step : FuncData
  a_is_integer : Addr
  fd_is_integer : FuncData
  a_is_word : Addr
  fd_is_word : FuncData
  a_require : Addr
  fd_require : FuncData
  a_table_of : Addr
  fd_table_of : FuncData
  a_numbers_of : Addr
  fd_numbers_of : FuncData
  a_file_of : Addr
  fd_file_of : FuncData
  a_require_charge : Addr
  fd_require_charge : FuncData
  a_require_source : Addr
  fd_require_source : FuncData
  a_place_for : Addr
  fd_place_for : FuncData
  a_map_pages : Addr
  fd_map_pages : FuncData
  a_new_pages : Addr
  fd_new_pages : FuncData
  a_unmap : Addr
  fd_unmap : FuncData
  a_continues : Addr
  fd_continues : FuncData
  a_regions : Addr
  fd_regions : FuncData
  a_free_runs : Addr
  fd_free_runs : FuncData
  a_lowest_gap : Addr
  fd_lowest_gap : FuncData
  a_gap : Addr
  fd_gap : FuncData
  a_widest : Addr
  fd_widest : FuncData
  a_new_process : Addr
  fd_new_process : FuncData
  a_spawn : Addr
  fd_spawn : FuncData
  a__law_well : Addr
  fd__law_well : FuncData
  a__law_draw : Addr
  fd__law_draw : FuncData
  a__law_one : Addr
  fd__law_one : FuncData
  a__law_fits : Addr
  fd__law_fits : FuncData
  a__law_said : Addr
  fd__law_said : FuncData
  a__law_widest : Addr
  fd__law_widest : FuncData
  a__law_refused : Addr
  fd__law_refused : FuncData
  co__law_refused : Addr
  ta__law_refused : Addr
  a_law : Addr
  fd_law : FuncData
  co_law : Addr
  ta_law : Addr
  c_NoProcess : Addr
  c_NoPages : Addr
  c_NoFile : Addr
  c_PageError : Addr
  c_System : Addr
  c_Page : Addr
  c_History : Addr
  a_NoProcess_init : Addr
  fd_NoProcess_init : FuncData
  a_NoPages_init : Addr
  fd_NoPages_init : FuncData
  a_NoFile_init : Addr
  fd_NoFile_init : FuncData
  a_Page_init : Addr
  fd_Page_init : FuncData
  a_History_init : Addr
  fd_History_init : FuncData
  a_System_init : Addr
  fd_System_init : FuncData
  t_PAGES : Tok
  o_RIGHTS : Addr
/-- what the top has written -/
structure Txt (K : PySem.W.Frag) (mg : Str → Option Value) (A : Adr) : Prop where
  f_attributes : Fun K "attributes" "attributes" s_attributes A.a_attributes A.fd_attributes
  bi_attributes : L2.Binds K A.fd_attributes p_attributes []
  g_attributes : mg "attributes" = some (.ref A.a_attributes)
  k_attributes : PySem.W.keepIn K (.ref A.a_attributes) = true
  f_has_object : Fun K "has_object" "has_object" s_has_object A.a_has_object A.fd_has_object
  bi_has_object : L2.Binds K A.fd_has_object p_has_object []
  g_has_object : mg "has_object" = some (.ref A.a_has_object)
  k_has_object : PySem.W.keepIn K (.ref A.a_has_object) = true
  f_arrange_locked : Fun K "arrange_locked" "arrange_locked" s_arrange_locked A.a_arrange_locked A.fd_arrange_locked
  bi_arrange_locked : L2.Binds K A.fd_arrange_locked p_arrange_locked []
  g_arrange_locked : mg "arrange_locked" = some (.ref A.a_arrange_locked)
  k_arrange_locked : PySem.W.keepIn K (.ref A.a_arrange_locked) = true
  f_add_locked : Fun K "add_locked" "add_locked" s_add_locked A.a_add_locked A.fd_add_locked
  bi_add_locked : L2.Binds K A.fd_add_locked p_add_locked []
  g_add_locked : mg "add_locked" = some (.ref A.a_add_locked)
  k_add_locked : PySem.W.keepIn K (.ref A.a_add_locked) = true
  f_this_step : Fun K "this_step" "this_step" s_this_step A.a_this_step A.fd_this_step
  bi_this_step : L2.Binds K A.fd_this_step p_this_step []
  g_this_step : mg "this_step" = some (.ref A.a_this_step)
  k_this_step : PySem.W.keepIn K (.ref A.a_this_step) = true
  f_count_page : Fun K "count_page" "count_page" s_count_page A.a_count_page A.fd_count_page
  bi_count_page : L2.Binds K A.fd_count_page p_count_page []
  g_count_page : mg "count_page" = some (.ref A.a_count_page)
  k_count_page : PySem.W.keepIn K (.ref A.a_count_page) = true
  f_discount_page : Fun K "discount_page" "discount_page" s_discount_page A.a_discount_page A.fd_discount_page
  bi_discount_page : L2.Binds K A.fd_discount_page p_discount_page []
  g_discount_page : mg "discount_page" = some (.ref A.a_discount_page)
  k_discount_page : PySem.W.keepIn K (.ref A.a_discount_page) = true
  f_discount_user : Fun K "discount_user" "discount_user" s_discount_user A.a_discount_user A.fd_discount_user
  bi_discount_user : L2.Binds K A.fd_discount_user p_discount_user []
  g_discount_user : mg "discount_user" = some (.ref A.a_discount_user)
  k_discount_user : PySem.W.keepIn K (.ref A.a_discount_user) = true
  f_replace_pages : Fun K "replace_pages" "replace_pages" s_replace_pages A.a_replace_pages A.fd_replace_pages
  bi_replace_pages : L2.Binds K A.fd_replace_pages p_replace_pages []
  g_replace_pages : mg "replace_pages" = some (.ref A.a_replace_pages)
  k_replace_pages : PySem.W.keepIn K (.ref A.a_replace_pages) = true
  f_end_step : Fun K "end_step" "end_step" s_end_step A.a_end_step A.fd_end_step
  bi_end_step : L2.Binds K A.fd_end_step p_end_step []
  g_end_step : mg "end_step" = some (.ref A.a_end_step)
  k_end_step : PySem.W.keepIn K (.ref A.a_end_step) = true
  f_is_integer : Fun K "is_integer" "is_integer" s_is_integer A.a_is_integer A.fd_is_integer
  bi_is_integer : L2.Binds K A.fd_is_integer p_is_integer []
  g_is_integer : mg "is_integer" = some (.ref A.a_is_integer)
  k_is_integer : PySem.W.keepIn K (.ref A.a_is_integer) = true
  f_is_word : Fun K "is_word" "is_word" s_is_word A.a_is_word A.fd_is_word
  bi_is_word : L2.Binds K A.fd_is_word p_is_word []
  g_is_word : mg "is_word" = some (.ref A.a_is_word)
  k_is_word : PySem.W.keepIn K (.ref A.a_is_word) = true
  f_require : Fun K "require" "require" s_require A.a_require A.fd_require
  bi_require : L2.Binds K A.fd_require p_require []
  g_require : mg "require" = some (.ref A.a_require)
  k_require : PySem.W.keepIn K (.ref A.a_require) = true
  f_table_of : Fun K "table_of" "table_of" s_table_of A.a_table_of A.fd_table_of
  bi_table_of : L2.Binds K A.fd_table_of p_table_of []
  g_table_of : mg "table_of" = some (.ref A.a_table_of)
  k_table_of : PySem.W.keepIn K (.ref A.a_table_of) = true
  f_numbers_of : Fun K "numbers_of" "numbers_of" s_numbers_of A.a_numbers_of A.fd_numbers_of
  bi_numbers_of : L2.Binds K A.fd_numbers_of p_numbers_of []
  g_numbers_of : mg "numbers_of" = some (.ref A.a_numbers_of)
  k_numbers_of : PySem.W.keepIn K (.ref A.a_numbers_of) = true
  f_file_of : Fun K "file_of" "file_of" s_file_of A.a_file_of A.fd_file_of
  bi_file_of : L2.Binds K A.fd_file_of p_file_of []
  g_file_of : mg "file_of" = some (.ref A.a_file_of)
  k_file_of : PySem.W.keepIn K (.ref A.a_file_of) = true
  f_require_charge : Fun K "require_charge" "require_charge" s_require_charge A.a_require_charge A.fd_require_charge
  bi_require_charge : L2.Binds K A.fd_require_charge p_require_charge []
  g_require_charge : mg "require_charge" = some (.ref A.a_require_charge)
  k_require_charge : PySem.W.keepIn K (.ref A.a_require_charge) = true
  f_require_source : Fun K "require_source" "require_source" s_require_source A.a_require_source A.fd_require_source
  bi_require_source : L2.Binds K A.fd_require_source p_require_source []
  g_require_source : mg "require_source" = some (.ref A.a_require_source)
  k_require_source : PySem.W.keepIn K (.ref A.a_require_source) = true
  f_place_for : Fun K "place_for" "place_for" s_place_for A.a_place_for A.fd_place_for
  bi_place_for : L2.Binds K A.fd_place_for p_place_for []
  g_place_for : mg "place_for" = some (.ref A.a_place_for)
  k_place_for : PySem.W.keepIn K (.ref A.a_place_for) = true
  f_map_pages : FunD K "map_pages" "map_pages" (defArgs s_map_pages) (defBody s_map_pages) (defScope s_map_pages) [] kw_map_pages A.a_map_pages A.fd_map_pages
  g_map_pages : mg "map_pages" = some (.ref A.a_map_pages)
  k_map_pages : PySem.W.keepIn K (.ref A.a_map_pages) = true
  f_new_pages : Fun K "new_pages" "new_pages" s_new_pages A.a_new_pages A.fd_new_pages
  bi_new_pages : L2.Binds K A.fd_new_pages p_new_pages []
  g_new_pages : mg "new_pages" = some (.ref A.a_new_pages)
  k_new_pages : PySem.W.keepIn K (.ref A.a_new_pages) = true
  f_unmap : Fun K "unmap" "unmap" s_unmap A.a_unmap A.fd_unmap
  bi_unmap : L2.Binds K A.fd_unmap p_unmap []
  g_unmap : mg "unmap" = some (.ref A.a_unmap)
  k_unmap : PySem.W.keepIn K (.ref A.a_unmap) = true
  f_continues : Fun K "continues" "continues" s_continues A.a_continues A.fd_continues
  bi_continues : L2.Binds K A.fd_continues p_continues []
  g_continues : mg "continues" = some (.ref A.a_continues)
  k_continues : PySem.W.keepIn K (.ref A.a_continues) = true
  f_regions : Fun K "regions" "regions" s_regions A.a_regions A.fd_regions
  bi_regions : L2.Binds K A.fd_regions p_regions []
  g_regions : mg "regions" = some (.ref A.a_regions)
  k_regions : PySem.W.keepIn K (.ref A.a_regions) = true
  f_free_runs : Fun K "free_runs" "free_runs" s_free_runs A.a_free_runs A.fd_free_runs
  bi_free_runs : L2.Binds K A.fd_free_runs p_free_runs []
  g_free_runs : mg "free_runs" = some (.ref A.a_free_runs)
  k_free_runs : PySem.W.keepIn K (.ref A.a_free_runs) = true
  f_lowest_gap : Fun K "lowest_gap" "lowest_gap" s_lowest_gap A.a_lowest_gap A.fd_lowest_gap
  bi_lowest_gap : L2.Binds K A.fd_lowest_gap p_lowest_gap []
  g_lowest_gap : mg "lowest_gap" = some (.ref A.a_lowest_gap)
  k_lowest_gap : PySem.W.keepIn K (.ref A.a_lowest_gap) = true
  f_gap : Fun K "gap" "gap" s_gap A.a_gap A.fd_gap
  bi_gap : L2.Binds K A.fd_gap p_gap []
  g_gap : mg "gap" = some (.ref A.a_gap)
  k_gap : PySem.W.keepIn K (.ref A.a_gap) = true
  f_widest : Fun K "widest" "widest" s_widest A.a_widest A.fd_widest
  bi_widest : L2.Binds K A.fd_widest p_widest []
  g_widest : mg "widest" = some (.ref A.a_widest)
  k_widest : PySem.W.keepIn K (.ref A.a_widest) = true
  f_new_process : Fun K "new_process" "new_process" s_new_process A.a_new_process A.fd_new_process
  bi_new_process : L2.Binds K A.fd_new_process p_new_process []
  g_new_process : mg "new_process" = some (.ref A.a_new_process)
  k_new_process : PySem.W.keepIn K (.ref A.a_new_process) = true
  f_spawn : Fun K "spawn" "spawn" s_spawn A.a_spawn A.fd_spawn
  bi_spawn : L2.Binds K A.fd_spawn p_spawn []
  g_spawn : mg "spawn" = some (.ref A.a_spawn)
  k_spawn : PySem.W.keepIn K (.ref A.a_spawn) = true
  f__law_well : Fun K "_law_well" "_law_well" s__law_well A.a__law_well A.fd__law_well
  bi__law_well : L2.Binds K A.fd__law_well p__law_well []
  g__law_well : mg "_law_well" = some (.ref A.a__law_well)
  k__law_well : PySem.W.keepIn K (.ref A.a__law_well) = true
  f__law_draw : Fun K "_law_draw" "_law_draw" s__law_draw A.a__law_draw A.fd__law_draw
  bi__law_draw : L2.Binds K A.fd__law_draw p__law_draw []
  g__law_draw : mg "_law_draw" = some (.ref A.a__law_draw)
  k__law_draw : PySem.W.keepIn K (.ref A.a__law_draw) = true
  f__law_one : Fun K "_law_one" "_law_one" s__law_one A.a__law_one A.fd__law_one
  bi__law_one : L2.Binds K A.fd__law_one p__law_one []
  g__law_one : mg "_law_one" = some (.ref A.a__law_one)
  k__law_one : PySem.W.keepIn K (.ref A.a__law_one) = true
  f__law_fits : Fun K "_law_fits" "_law_fits" s__law_fits A.a__law_fits A.fd__law_fits
  bi__law_fits : L2.Binds K A.fd__law_fits p__law_fits []
  g__law_fits : mg "_law_fits" = some (.ref A.a__law_fits)
  k__law_fits : PySem.W.keepIn K (.ref A.a__law_fits) = true
  f__law_said : Fun K "_law_said" "_law_said" s__law_said A.a__law_said A.fd__law_said
  bi__law_said : L2.Binds K A.fd__law_said p__law_said []
  g__law_said : mg "_law_said" = some (.ref A.a__law_said)
  k__law_said : PySem.W.keepIn K (.ref A.a__law_said) = true
  f__law_widest : Fun K "_law_widest" "_law_widest" s__law_widest A.a__law_widest A.fd__law_widest
  bi__law_widest : L2.Binds K A.fd__law_widest p__law_widest []
  g__law_widest : mg "_law_widest" = some (.ref A.a__law_widest)
  k__law_widest : PySem.W.keepIn K (.ref A.a__law_widest) = true
  f__law_refused : Fun K "_law_refused" "_law_refused" s__law_refused A.a__law_refused A.fd__law_refused
  bi__law_refused : L2.Binds K A.fd__law_refused p__law_refused []
  fl__law_refused : FunC K "_law_refused" "_law_refused" s__law_refused A.a__law_refused A.fd__law_refused A.co__law_refused
  g__law_refused : mg "_law_refused" = some (.ref A.a__law_refused)
  k__law_refused : PySem.W.keepIn K (.ref A.a__law_refused) = true
  f_law : Fun K "law" "law" s_law A.a_law A.fd_law
  bi_law : L2.Binds K A.fd_law p_law []
  fl_law : FunC K "law" "law" s_law A.a_law A.fd_law A.co_law
  g_law : mg "law" = some (.ref A.a_law)
  k_law : PySem.W.keepIn K (.ref A.a_law) = true
  g_NoProcess : mg "NoProcess" = some (.ref A.c_NoProcess)
  g_NoPages : mg "NoPages" = some (.ref A.c_NoPages)
  g_NoFile : mg "NoFile" = some (.ref A.c_NoFile)
  g_PageError : mg "PageError" = some (.ref A.c_PageError)
  g_System : mg "System" = some (.ref A.c_System)
  g_Page : mg "Page" = some (.ref A.c_Page)
  g_History : mg "History" = some (.ref A.c_History)
  f_NoProcess_init : Fun K "__init__" "NoProcess.__init__" s_NoProcess_init A.a_NoProcess_init A.fd_NoProcess_init
  bi_NoProcess_init : L2.Binds K A.fd_NoProcess_init p_NoProcess_init []
  f_NoPages_init : Fun K "__init__" "NoPages.__init__" s_NoPages_init A.a_NoPages_init A.fd_NoPages_init
  bi_NoPages_init : L2.Binds K A.fd_NoPages_init p_NoPages_init []
  f_NoFile_init : Fun K "__init__" "NoFile.__init__" s_NoFile_init A.a_NoFile_init A.fd_NoFile_init
  bi_NoFile_init : L2.Binds K A.fd_NoFile_init p_NoFile_init []
  f_Page_init : Fun K "__init__" "Page.__init__" s_Page_init A.a_Page_init A.fd_Page_init
  bi_Page_init : L2.Binds K A.fd_Page_init p_Page_init []
  f_History_init : Fun K "__init__" "History.__init__" s_History_init A.a_History_init A.fd_History_init
  bi_History_init : L2.Binds K A.fd_History_init p_History_init []
  f_System_init : FunD K "__init__" "System.__init__" (defArgs s_System_init) (defBody s_System_init) (defScope s_System_init) [] kw_System_init A.a_System_init A.fd_System_init
  x_NoProcess : OexC K A.c_NoProcess
  xf_NoProcess : XfC K A.c_NoProcess
  xn_NoProcess : PySem.W.findIn K (.ref A.c_NoProcess) "process" = some none
  xi_NoProcess : PySem.W.findIn K (.ref A.c_NoProcess) "__init__" = some (some (.ref A.a_NoProcess_init))
  xt_NoProcess : PySem.W.typeIn K (.ref A.a_NoProcess_init) = some (.type "function")
  x_NoPages : OexC K A.c_NoPages
  xf_NoPages : XfC K A.c_NoPages
  xn_NoPages : PySem.W.findIn K (.ref A.c_NoPages) "part" = some none
  xi_NoPages : PySem.W.findIn K (.ref A.c_NoPages) "__init__" = some (some (.ref A.a_NoPages_init))
  xt_NoPages : PySem.W.typeIn K (.ref A.a_NoPages_init) = some (.type "function")
  x_NoFile : OexC K A.c_NoFile
  xf_NoFile : XfC K A.c_NoFile
  xn_NoFile : PySem.W.findIn K (.ref A.c_NoFile) "name" = some none
  xi_NoFile : PySem.W.findIn K (.ref A.c_NoFile) "__init__" = some (some (.ref A.a_NoFile_init))
  xt_NoFile : PySem.W.typeIn K (.ref A.a_NoFile_init) = some (.type "function")
  x_PageError : OexC K A.c_PageError
  xf_PageError : XfC K A.c_PageError
  e_NoPages_NoPages : PySem.W.exmOne K (.ref A.c_NoPages) (.ref A.c_NoPages) = some true
  e_NoProcess_NoPages : PySem.W.exmOne K (.ref A.c_NoProcess) (.ref A.c_NoPages) = some false
  e_NoProcess_NoProcess : PySem.W.exmOne K (.ref A.c_NoProcess) (.ref A.c_NoProcess) = some true
  cl_System : Cls K A.c_System
  mk_System : Mk K A.c_System A.a_System_init
  n_System_frames : NoAttr K A.c_System "frames"
  n_System_slots : NoAttr K A.c_System "slots"
  n_System_strict : NoAttr K A.c_System "strict"
  n_System_steps_made : NoAttr K A.c_System "steps_made"
  n_System_processes_made : NoAttr K A.c_System "processes_made"
  n_System_objects_made : NoAttr K A.c_System "objects_made"
  n_System_tables : NoAttr K A.c_System "tables"
  n_System_objects : NoAttr K A.c_System "objects"
  n_System_object_pages : NoAttr K A.c_System "object_pages"
  n_System_files : NoAttr K A.c_System "files"
  n_System_classes : NoAttr K A.c_System "classes"
  n_System_locked_pages : NoAttr K A.c_System "locked_pages"
  n_System_memory : NoAttr K A.c_System "memory"
  n_System_swapped : NoAttr K A.c_System "swapped"
  n_System_faults : NoAttr K A.c_System "faults"
  n_System_swap_outs : NoAttr K A.c_System "swap_outs"
  n_System_write_backs : NoAttr K A.c_System "write_backs"
  n_System_history : NoAttr K A.c_System "history"
  cl_Page : Cls K A.c_Page
  mk_Page : Mk K A.c_Page A.a_Page_init
  n_Page_rights : NoAttr K A.c_Page "rights"
  n_Page_shared : NoAttr K A.c_Page "shared"
  n_Page_source : NoAttr K A.c_Page "source"
  n_Page_index : NoAttr K A.c_Page "index"
  n_Page_flags : NoAttr K A.c_Page "flags"
  n_Page_held : NoAttr K A.c_Page "held"
  n_Page_stamp : NoAttr K A.c_Page "stamp"
  cl_History : Cls K A.c_History
  mk_History : Mk K A.c_History A.a_History_init
  n_History_row : NoAttr K A.c_History "row"
  n_History_holes : NoAttr K A.c_History "holes"
  n_History_locked : NoAttr K A.c_History "locked"
  n_History_classes : NoAttr K A.c_History "classes"
  n_History_touches : NoAttr K A.c_History "touches"
  n_History_distances : NoAttr K A.c_History "distances"
  n_History_swap_outs : NoAttr K A.c_History "swap_outs"
  n_History_write_backs : NoAttr K A.c_History "write_backs"
  n_History_most_slots : NoAttr K A.c_History "most_slots"
  n_History_saves : NoAttr K A.c_History "saves"
  n_History_lock_changes : NoAttr K A.c_History "lock_changes"
  n_History_most_locked : NoAttr K A.c_History "most_locked"
  n_History_crashed : NoAttr K A.c_History "crashed"
  n_History_merged : NoAttr K A.c_History "merged"
  g_PAGES : mg "PAGES" = some (.int 512 A.t_PAGES)
  b_int : mg "int" = none
  b_len : mg "len" = none
  b_isinstance : mg "isinstance" = none
  b_bool : mg "bool" = none
  b_str : mg "str" = none
  b_list : mg "list" = none
  b_range : mg "range" = none
  b_enumerate : mg "enumerate" = none
  b_min : mg "min" = none
  b_max : mg "max" = none
  b_sorted : mg "sorted" = none
  b_dict : mg "dict" = none
  b_tuple : mg "tuple" = none
  g_RIGHTS : mg "RIGHTS" = some (.ref A.o_RIGHTS)
  r_RIGHTS : rightsIn K A.o_RIGHTS = true
section
variable {P : Program} {w : World} {K : PySem.W.Frag} {mg : Str → Option Value} {base : Heap} {A : Adr}
theorem ok_is_integer (G : Txt K mg A) : FnOk P w K mg base CX0 1 A.a_is_integer A.fd_is_integer p_is_integer (fun vs H Q _ => ∃ (v : V) (lo hi : Int), vs = [v, .int lo, .int hi] ∧ AnyV H v ∧ Q (.bl (inR lo hi v)) H) := by
  refine G.f_is_integer.ok sc_is_integer (fun vs H Q E h => ?_) (fun cdv A' outer s H vs Q E hr h => ?_)
  · obtain ⟨v, lo, hi, rfl, _⟩ := h
    rfl
  · obtain ⟨v, lo, hi, rfl, hv, k⟩ := h
    refine ⟨_, (pss_one (ps_ret (pe_and (pe_callB call_isi (by rfl) G.b_isinstance (by decide +kernel) (pa_cons (pv 0) (pa_cons (pe_bltn (v := .ty "int") (u := .type "int") (by rfl) G.b_int (by decide +kernel) rfl) pa_nil))) (pe_and (pe_not (pe_callB call_isi (by rfl) G.b_isinstance (by decide +kernel) (pa_cons (pv 0) (pa_cons (pe_bltn (v := .ty "bool") (u := .type "bool") (by rfl) G.b_bool (by decide +kernel) rfl) pa_nil)))) (pe_one (pe_chain op_le op_le (pv 1) (pv 0) (pv 2))))))), ?_⟩
    obtain ⟨t, h1, h2, h3, _⟩ := hv.ty (K := K)
    walk_at "go"
    walk_at "ds"
    refine ⟨v, .ty "int", .type t, .type "int", _, rfl, .ty "int", h1, h2, _, rfl, ?_⟩
    cases e : isI v with
    | false =>
      refine iteF ?_
      have q : inR lo hi v = false := by cases v <;> first | rfl | cases e
      rw [q] at k
      exact k
    | true =>
      refine iteT ⟨_, rfl, v, .ty "bool", .type t, .type "bool", _, rfl, .ty "bool", h1, h3, _, rfl, _, rfl, ?_⟩
      cases e2 : isB v with
      | true =>
        refine iteF ?_
        have q : inR lo hi v = false := by cases v <;> first | rfl | cases e2
        rw [q] at k
        exact k
      | false =>
        refine iteT ?_
        obtain ⟨i, rfl⟩ : ∃ i, v = V.int i := by cases v <;> first | exact ⟨_, rfl⟩ | (cases e; done) | (cases e2; done)
        refine ⟨_, rfl, _, rfl, _, _, rfl, rfl, _, rfl, ?_⟩
        refine iteD (fun c => ?_) (fun c => ?_)
        · refine ⟨_, rfl, _, _, rfl, rfl, ?_⟩
          have q : inR lo hi (V.int i) = decide (i ≤ hi) := by
            show decide (lo ≤ i ∧ i ≤ hi) = _
            simp [c]
          rw [q] at k
          exact k
        · have q : inR lo hi (V.int i) = false := by
            show decide (lo ≤ i ∧ i ≤ hi) = _
            simp [c]
          rw [q] at k
          exact k
theorem ok_NoProcess_init (G : Txt K mg A) : FnOk P w K mg base CX0 1 A.a_NoProcess_init A.fd_NoProcess_init p_NoProcess_init (spXi K "process") := by
  refine G.f_NoProcess_init.ok sc_NoProcess_init (fun vs H Q E h => ?_) (fun cdv A' outer s H vs Q E hr h => ?_)
  · obtain ⟨a, C, y, rfl, _⟩ := h
    rfl
  · obtain ⟨a, C, y, rfl, hC, hn, ha, k⟩ := h
    exact ⟨_, pss_one (ps_ost (pv 0) (pv 1)), _, rfl, _, rfl, a, C, rfl, hC, hn, .inl ⟨ha, k⟩⟩
theorem ok_NoPages_init (G : Txt K mg A) : FnOk P w K mg base CX0 1 A.a_NoPages_init A.fd_NoPages_init p_NoPages_init (spXi K "part") := by
  refine G.f_NoPages_init.ok sc_NoPages_init (fun vs H Q E h => ?_) (fun cdv A' outer s H vs Q E hr h => ?_)
  · obtain ⟨a, C, y, rfl, _⟩ := h
    rfl
  · obtain ⟨a, C, y, rfl, hC, hn, ha, k⟩ := h
    exact ⟨_, pss_one (ps_ost (pv 0) (pv 1)), _, rfl, _, rfl, a, C, rfl, hC, hn, .inl ⟨ha, k⟩⟩
theorem ok_NoFile_init (G : Txt K mg A) : FnOk P w K mg base CX0 1 A.a_NoFile_init A.fd_NoFile_init p_NoFile_init (spXi K "name") := by
  refine G.f_NoFile_init.ok sc_NoFile_init (fun vs H Q E h => ?_) (fun cdv A' outer s H vs Q E hr h => ?_)
  · obtain ⟨a, C, y, rfl, _⟩ := h
    rfl
  · obtain ⟨a, C, y, rfl, hC, hn, ha, k⟩ := h
    exact ⟨_, pss_one (ps_ost (pv 0) (pv 1)), _, rfl, _, rfl, a, C, rfl, hC, hn, .inl ⟨ha, k⟩⟩
theorem sf_val {C x dx : Addr} {fs fs' : List (Str × V)} {H : Hp} {D : Ends} {σ : St} {f : Str} {y : V} {te : TE} (hte : ∀ Q : VK, Q y H → te σ H Q) (cl : Cls K C) (na : NoAttr K C f) (h0 : σ[0]? = some (some (.ref x)))
    (hx : H x = some (.ins C dx fs)) (hl : fs.length < 1000) (he : putF f y fs = fs') (k : ∀ H', But x H H' → (∀ b, b ≠ x → H' b = H b) → H' x = some (.ins C dx fs') → D.nx σ H') : sFld K (tVar 0) te f D σ H :=
  hte _ ⟨_, h0, x, C, dx, fs, rfl, hx, cl, na, hl, k _ But.up (fun b hb => upd_ne hb) (by rw [he, upd_same])⟩
def PgAt (C : Addr) (H : Hp) (p : Addr) (r s so i f h : V) : Prop := ∃ dx : Addr × Int, H p = some (.ins C dx.1 (pageF r s so i f h (.int dx.2)))
def spPage (A : Adr) : Sp := fun vs H Q _ => ∃ (x dx : Addr) (r s so i f h : V) (n : Int), vs = [.ref x, r, s, so, i, f, h, .int n] ∧ H x = some (.ins A.c_Page dx []) ∧
  ∀ H', But x H H' → PgAt A.c_Page H' x r s so i f h → Q .non H'
theorem ok_Page_init (G : Txt K mg A) : FnOk P w K mg base CX0 1 A.a_Page_init A.fd_Page_init p_Page_init (spPage A) := by
  refine G.f_Page_init.ok sc_Page_init (fun vs H Q E h => ?_) (fun cdv A' outer s H vs Q E hr h => ?_)
  · obtain ⟨x, dx, r, s, so, i, f, h, n, rfl, _⟩ := h
    rfl
  · obtain ⟨x, dx, r, s, so, i, f, h, n, rfl, hx, k⟩ := h
    refine ⟨_, (pss_cons (ps_fld (pv 0) (pv 1) rfl)
  (pss_cons (ps_fld (pv 0) (pv 2) rfl)
  (pss_cons (ps_fld (pv 0) (pv 3) rfl)
  (pss_cons (ps_fld (pv 0) (pv 4) rfl)
  (pss_cons (ps_fld (pv 0) (pv 5) rfl)
  (pss_cons (ps_fld (pv 0) (pv 6) rfl)
  (pss_one (ps_fld (pv 0) (pv 7) rfl)))))))), ?_⟩
    have v1 : ∀ {j : Nat} {v : V} {H : Hp}, (L2.start n_Page_init [V.ref x, r, s, so, i, f, h, .int n])[j]? = some (some v) → ∀ Q : VK, Q v H → tVar j (L2.start n_Page_init [V.ref x, r, s, so, i, f, h, .int n]) H Q := fun h Q q => ⟨_, h, q⟩
    refine sf_val (fs := []) (fs' := [("rights", r)]) (v1 (j := 1) rfl) G.cl_Page G.n_Page_rights rfl hx (by show 0 < 1000; decide) rfl (fun H1 b1 n1 e1 => ?_)
    dsimp only
    refine sf_val (fs := [("rights", r)]) (fs' := [("rights", r), ("shared", s)]) (v1 (j := 2) rfl) G.cl_Page G.n_Page_shared rfl e1 (by show 1 < 1000; decide) rfl (fun H2 b2 n2 e2 => ?_)
    dsimp only
    refine sf_val (fs := [("rights", r), ("shared", s)]) (fs' := [("rights", r), ("shared", s), ("source", so)]) (v1 (j := 3) rfl) G.cl_Page G.n_Page_source rfl e2 (by show 2 < 1000; decide) rfl (fun H3 b3 n3 e3 => ?_)
    dsimp only
    refine sf_val (fs := [("rights", r), ("shared", s), ("source", so)]) (fs' := [("rights", r), ("shared", s), ("source", so), ("index", i)]) (v1 (j := 4) rfl) G.cl_Page G.n_Page_index rfl e3 (by show 3 < 1000; decide) rfl (fun H4 b4 n4 e4 => ?_)
    dsimp only
    refine sf_val (fs := [("rights", r), ("shared", s), ("source", so), ("index", i)]) (fs' := [("rights", r), ("shared", s), ("source", so), ("index", i), ("flags", f)]) (v1 (j := 5) rfl) G.cl_Page G.n_Page_flags rfl e4 (by show 4 < 1000; decide) rfl (fun H5 b5 n5 e5 => ?_)
    dsimp only
    refine sf_val (fs := [("rights", r), ("shared", s), ("source", so), ("index", i), ("flags", f)]) (fs' := [("rights", r), ("shared", s), ("source", so), ("index", i), ("flags", f), ("held", h)]) (v1 (j := 6) rfl) G.cl_Page G.n_Page_held rfl e5 (by show 5 < 1000; decide) rfl (fun H6 b6 n6 e6 => ?_)
    dsimp only
    refine sf_val (fs := [("rights", r), ("shared", s), ("source", so), ("index", i), ("flags", f), ("held", h)]) (fs' := pageF r s so i f h (.int n)) (v1 (j := 7) rfl) G.cl_Page G.n_Page_stamp rfl e6 (by show 6 < 1000; decide) rfl (fun H7 b7 n7 e7 => ?_)
    exact k H7 (b1.trans (b2.trans (b3.trans (b4.trans (b5.trans (b6.trans b7)))))) ⟨(dx, n), e7⟩
theorem ok_has_object (G : Txt K mg A) : FnOk P w K mg base CX0 1 A.a_has_object A.fd_has_object p_has_object (fun vs H Q _ => ∃ (p : Addr) (g : Pg), vs = [.ref p] ∧ PgR A.c_Page H p g ∧ WfP g ∧ Q (.bl (isObj g.src)) H) := by
  refine G.f_has_object.ok sc_has_object (fun vs H Q E h => ?_) (fun cdv A' outer s H vs Q E hr h => ?_)
  · obtain ⟨p, g, rfl, _⟩ := h
    rfl
  · obtain ⟨p, g, rfl, ⟨dx, sv, fa, e, hs, hf⟩, wf, k⟩ := h
    refine ⟨_, (pss_one (ps_ret (pe_and (pe_fld (pv 0) rfl) (pe_one (pe_cmpR op_eq (pe_ix ix_tup (pe_fld (pv 0) rfl) pe_int (fun _ _ => rfl)) pe_str (nomark _)))))), ?_⟩
    refine ⟨_, rfl, p, _, _, _, _, rfl, e, G.cl_Page, G.n_Page_shared, rfl, _, rfl, ?_⟩
    refine iteB (fun c => ?_) (fun c => ?_)
    · cases es : g.src with
      | non => exact absurd es (wf.sh c)
      | file n =>
        rw [es] at hs
        obtain ⟨a, rfl, ha⟩ := hs
        refine ⟨_, rfl, p, _, _, _, _, rfl, e, G.cl_Page, G.n_Page_source, rfl, a, _, 0, _, rfl, rfl, SqT.of ha, rfl, rfl, ?_⟩
        rw [show isObj g.src = false by rw [es]; rfl] at k
        rw [show decide (V.str (Str.ofString "file") = V.str (Str.ofString "object")) = false by decide +kernel]
        exact k
      | obj j =>
        rw [es] at hs
        obtain ⟨a, rfl, ha⟩ := hs
        refine ⟨_, rfl, p, _, _, _, _, rfl, e, G.cl_Page, G.n_Page_source, rfl, a, _, 0, _, rfl, rfl, SqT.of ha, rfl, rfl, ?_⟩
        rw [show isObj g.src = true by rw [es]; rfl] at k
        rw [show decide (V.str (Str.ofString "object") = V.str (Str.ofString "object")) = true by decide +kernel]
        exact k
    · have z : isObj g.src = false := by
        cases es : g.src with
        | obj j => have := wf.ob j es; rw [c] at this; cases this
        | non => rfl
        | file n => rfl
      rw [z] at k
      exact k
theorem rights_at {H : Hp} (G : Txt K mg A) : SqT K H A.o_RIGHTS [.str "none", .str "r", .str "rw"] := by
  have h := G.r_RIGHTS
  unfold rightsIn at h
  split at h
  · rename_i dd its n sl hl
    split at h
    · rename_i x t1 y t2 z t3 he
      simp only [Bool.and_eq_true, beq_iff_eq] at h
      obtain ⟨⟨rfl, rfl⟩, rfl⟩ := h
      refine .inr ⟨_, its, n, hl, rfl, rfl, ?_, ?_⟩
      · have : its.size = 3 := by rw [← Array.length_toList, he]; rfl
        rw [this]; decide
      · rw [he]
        exact .cons ⟨_, rfl⟩ (.cons ⟨_, rfl⟩ (.cons ⟨_, rfl⟩ .nil))
    · cases h
  · cases h
def spWord (K : PySem.W.Frag) : Sp := fun vs H Q _ => ∃ (v : V) (a : Addr) (xs : List V), vs = [v, .ref a] ∧ AnyV H v ∧ SqT K H a xs ∧ xs.all flatV = true ∧ Q (.bl (isW xs v)) H
theorem ok_is_word (G : Txt K mg A) : FnOk P w K mg base CX0 1 A.a_is_word A.fd_is_word p_is_word (spWord K) := by
  refine G.f_is_word.ok sc_is_word (fun vs H Q E h => ?_) (fun cdv A' outer s H vs Q E hr h => ?_)
  · obtain ⟨v, a, xs, rfl, _⟩ := h
    rfl
  · obtain ⟨v, a, xs, rfl, hv, hx, fx, k⟩ := h
    refine ⟨_, (pss_one (ps_ret (pe_and (pe_callB call_isi (by rfl) G.b_isinstance (by decide +kernel) (pa_cons (pv 0) (pa_cons (pe_bltn (v := .ty "str") (u := .type "str") (by rfl) G.b_str (by decide +kernel) rfl) pa_nil))) (pe_one (pe_cmpR (r := rIn K false) op_in_seq (pv 0) (pv 1) (by rfl)))))), ?_⟩
    obtain ⟨t, h1, _, _, h4, _⟩ := hv.ty (K := K)
    refine ⟨_, rfl, v, .ty "str", .type t, .type "str", _, rfl, .ty "str", h1, h4, _, rfl, ?_⟩
    unfold isW at k
    refine iteB (fun c => ?_) (fun c => ?_)
    · rw [c] at k
      exact ⟨_, rfl, _, rfl, a, xs, rfl, .inr hx, (by cases v <;> first | rfl | cases c), fx, k⟩
    · rw [c] at k
      exact k
def spReqr (A : Adr) : Sp := fun vs H Q E => ∃ (b : Bool) (pt : Str), vs = [.bl b, .str pt] ∧ (b = true → Q .non H) ∧ (b = false → Rz A.c_NoPages "part" (.str pt) H E)
theorem ok_require (G : Txt K mg A) : FnOk P w K mg base (L2.CX P w) 3 A.a_require A.fd_require p_require (spReqr A) := by
  refine G.f_require.okX sc_require (fun vs H Q E h => ?_) (fun cdv A' outer s H vs Q E hr h => ?_)
  · obtain ⟨b, pt, rfl, _⟩ := h
    rfl
  · obtain ⟨b, pt, rfl, k1, k2⟩ := h
    refine ⟨_, (pss_one (ps_if (pt_not (pt_val (pv 0))) (pss_one (ps_raise rfl (takes_of rfl rfl rfl rfl) (pmk_oex G.x_NoPages G.xi_NoPages G.xt_NoPages (ok_NoPages_init G) (hr.mono (by decide)) G.bi_NoPages_init .nil pass0 rfl G.g_NoPages (pa_cons (pv 1) pa_nil)))) pss_nil)), ?_⟩
    cases b with
    | true => exact ⟨_, rfl, _, rfl, iteF (k1 rfl)⟩
    | false => exact ⟨_, rfl, _, rfl, iteT ⟨_, rfl, (by show 1 ≤ 1000; decide), fun a ha => xi_done G.x_NoPages G.xn_NoPages ha (k2 rfl)⟩⟩
theorem Txt.sysN (G : Txt K mg A) : Cls K A.c_System ∧ NoAttr K A.c_System "strict" ∧ NoAttr K A.c_System "steps_made" ∧ NoAttr K A.c_System "processes_made" ∧ NoAttr K A.c_System "objects_made" ∧ NoAttr K A.c_System "tables" ∧ NoAttr K A.c_System "objects" ∧ NoAttr K A.c_System "object_pages" ∧ NoAttr K A.c_System "files" :=
  ⟨G.cl_System, G.n_System_strict, G.n_System_steps_made, G.n_System_processes_made, G.n_System_objects_made, G.n_System_tables, G.n_System_objects, G.n_System_object_pages, G.n_System_files⟩
abbrev Sa (A : Adr) := SyA A.c_System A.c_Page A.c_History
abbrev Sr (A : Adr) := SyR A.c_System A.c_Page A.c_History
/-- the table of a living process; else NoProcess -/
def spTable (A : Adr) : Sp := fun vs H Q E => ∃ (x : Addr) (wh : Wh) (S : Sys) (τ : Tm) (cnt : Int → Int → Nat) (v : V), vs = [.ref x, v] ∧ Sa A H x wh S τ cnt ∧ AnyV H v ∧
  (∀ i d, v = .int i → TabOf H wh i d → Q (.ref d) H) ∧ ((∀ i, v = .int i → S.tabs i = none) → Rz A.c_NoProcess "process" v H E)
theorem ok_table_of (G : Txt K mg A) : FnOk P w K mg base (L2.CX P w) 3 A.a_table_of A.fd_table_of p_table_of (spTable A) := by
  refine G.f_table_of.okX sc_table_of (fun vs H Q E h => ?_) (fun cdv A' outer s H vs Q E hr h => ?_)
  · obtain ⟨x, wh, S, τ, cnt, v, rfl, _⟩ := h
    rfl
  · obtain ⟨x, wh, S, τ, cnt, v, rfl, hS, hv, k1, k2⟩ := h
    obtain ⟨cl, a3, a4, a5, a6, a7, a8, a9, a10⟩ := G.sysN
    refine ⟨_, (pss_cons (ps_if (PW.pt (pw_or (pt_not (pt_val (pe_call (ok_is_integer G) (hr.mono (by decide)) rfl G.g_is_integer G.k_is_integer G.bi_is_integer .nil pass0 (pa_cons (pv 1) (pa_cons pe_int (pa_cons (pe_fld (pv 0) rfl) pa_nil)))))) (pw_or1 (pt_cmp (pc_dnotin (hu_of hr) (pv 1) (pe_fld (pv 0) rfl)))))) (pss_one (ps_raise rfl (takes_of rfl rfl rfl rfl) (pmk_oex G.x_NoProcess G.xi_NoProcess G.xt_NoProcess (ok_NoProcess_init G) (hr.mono (by decide)) G.bi_NoProcess_init .nil pass0 rfl G.g_NoProcess (pa_cons (pv 1) pa_nil)))) pss_nil)
  (pss_one (ps_ret (pe_dget (hu_of hr) (pe_fld (pv 0) rfl) (pv 1) (fun _ _ => rfl))))), ?_⟩
    have h1 := hS.hx
    have fin : (∀ i, v = .int i → S.tabs i = none) → tMkO A.c_NoProcess (spXi K "process") [] (tCons (tVar 1) tNil) (L2.start n_table_of [V.ref x, v]) H (fun cls d H' => E cls d H') := fun hn => by
      refine ⟨_, rfl, (by show 1 ≤ 1000; decide), fun a ha => xi_done G.x_NoProcess G.xn_NoProcess ha (k2 hn)⟩
    refine ⟨_, rfl, _, rfl, x, _, _, _, _, rfl, h1, cl, a5, rfl, v, 1, S.p, rfl, hv, _, rfl, ?_⟩
    cases ei : inR 1 S.p v with
    | false =>
      refine iteT (iteT (fin fun i e => ?_))
      subst e
      cases et : S.tabs i with
      | none => rfl
      | some P =>
        obtain ⟨d, hd⟩ := hS.living et
        have := (hS.tabE hd et).1
        rw [inR_of this.1 this.2] at ei
        cases ei
    | true =>
      refine iteF ?_
      obtain ⟨i, rfl, _⟩ := inR_int ei
      cases et : S.tabs i with
      | some P =>
        obtain ⟨d, hd⟩ := hS.living et
        obtain ⟨kvs, h2, hv2⟩ := id hd
        refine ⟨_, rfl, _, rfl, x, _, _, _, _, rfl, h1, cl, a7, rfl, wh.t, _, rfl, DGet.k (k := Sum.inl i) h2, _, rfl, ?_⟩
        rw [hv2]
        refine iteF ?_
        exact ⟨_, rfl, x, _, _, _, _, rfl, h1, cl, a7, rfl, _, rfl, wh.t, _, rfl, (by rw [← hv2]; exact DGet.k (k := Sum.inl i) h2), k1 i d rfl hd⟩
      | none =>
        obtain ⟨kvs, h2, hv2⟩ := hS.notIn et
        refine ⟨_, rfl, _, rfl, x, _, _, _, _, rfl, h1, cl, a7, rfl, wh.t, _, rfl, DGet.k (k := Sum.inl i) h2, _, rfl, ?_⟩
        rw [hv2]
        exact iteT (fin fun j e => by rw [← V.int.inj e]; exact et)
def spNums (A : Adr) : Sp := fun vs H Q E => ∃ (fv cv : V), vs = [fv, cv] ∧ AnyV H fv ∧ AnyV H cv ∧ (inR 0 511 fv = false → Rz A.c_NoPages "part" (.str "first") H E) ∧
  ∀ f, fv = .int f → 0 ≤ f → f ≤ 511 → (inR 1 (512 - f) cv = false → Rz A.c_NoPages "part" (.str "count") H E) ∧
    ∀ c, cv = .int c → 1 ≤ c → c ≤ 512 - f → ∀ q H', H' = upd H q (.lst (rgV f (f + c))) → H q = none → Q (.ref q) H'
theorem ok_numbers_of (G : Txt K mg A) : FnOk P w K mg base (L2.CX P w) 4 A.a_numbers_of A.fd_numbers_of p_numbers_of (spNums A) := by
  refine G.f_numbers_of.okX sc_numbers_of (fun vs H Q E h => ?_) (fun cdv A' outer s H vs Q E hr h => ?_)
  · obtain ⟨fv, cv, rfl, _⟩ := h
    rfl
  · obtain ⟨fv, cv, rfl, hf, hc, k1, k2⟩ := h
    refine ⟨_, (pss_cons (ps_expr (pe_call (ok_require G) (hr.mono (by decide)) rfl G.g_require G.k_require G.bi_require .nil (passes_call (takes_of rfl rfl rfl rfl) (fun _ _ _ _ z => z)) (pa_cons (pe_call (ok_is_integer G) (hr.mono (by decide)) rfl G.g_is_integer G.k_is_integer G.bi_is_integer .nil pass0 (pa_cons (pv 0) (pa_cons pe_int (pa_cons (pe_op op_sub (pe_glob (v := .int 512) rfl G.g_PAGES ⟨_, rfl⟩) pe_int) pa_nil)))) (pa_cons pe_str pa_nil))))
  (pss_cons (ps_expr (pe_call (ok_require G) (hr.mono (by decide)) rfl G.g_require G.k_require G.bi_require .nil (passes_call (takes_of rfl rfl rfl rfl) (fun _ _ _ _ z => z)) (pa_cons (pe_call (ok_is_integer G) (hr.mono (by decide)) rfl G.g_is_integer G.k_is_integer G.bi_is_integer .nil pass0 (pa_cons (pv 1) (pa_cons pe_int (pa_cons (pe_op op_sub (pe_glob (v := .int 512) rfl G.g_PAGES ⟨_, rfl⟩) (pv 0)) pa_nil)))) (pa_cons pe_str pa_nil))))
  (pss_one (ps_ret (pe_listRg rfl rfl G.b_list (prg_2 rfl G.b_range (pv 0) (pe_op op_add (pv 0) (pv 1)))))))), ?_⟩
    refine ⟨_, rfl, _, _, rfl, rfl, fv, 0, 512 - 1, rfl, hf, _, _, rfl, fun z => ?_, k1⟩
    obtain ⟨f, rfl, f0, f1⟩ := inR_int z
    obtain ⟨k3, k4⟩ := k2 f rfl f0 (by omega)
    refine ⟨_, rfl, _, rfl, _, _, rfl, rfl, cv, 1, 512 - f, rfl, hc, _, _, rfl, fun z => ?_, k3⟩
    obtain ⟨c, rfl, c0, c1⟩ := inR_int z
    exact ⟨_, rfl, _, rfl, _, rfl, _, _, rfl, rfl, _, _, rfl, rfl, RgOk.of_le f0 (by omega) (by omega) (by omega), fun q hq => k4 c rfl c0 (by omega) q _ rfl hq⟩
theorem rg_at {f c : Int} {j : Nat} (hj : j < (rgV f (f + c)).length) {y : V} (hy : (rgV f (f + c))[j]? = some y) : y = .int (f + (j : Nat)) := by
  unfold rgV at hy
  rw [rgV_length] at hj
  rw [List.getElem?_map, List.getElem?_range hj] at hy
  exact (Option.some.inj hy).symm
theorem rg_len {f c : Int} : (rgV f (f + c)).length = c.toNat := by rw [rgV_length]; congr 1; omega
/-- nothing is locked: a new list of nothing -/
def spAddL (A : Adr) : Sp := fun vs H Q _ => ∃ (h f dh ro lk : Addr) (y : Nat → V), vs = [.ref h, .ref f] ∧ H h = some (.ins A.c_History dh (hisF ro lk y)) ∧ H ro = some (.lst []) ∧ H f = some (.lst []) ∧ Q .non H
theorem ok_add_locked (G : Txt K mg A) : FnOk P w K mg base CX0 1 A.a_add_locked A.fd_add_locked p_add_locked (spAddL A) := by
  refine G.f_add_locked.ok sc_add_locked (fun vs H Q E h => ?_) (fun cdv A' outer s H vs Q E hr h => ?_)
  · obtain ⟨h, f, dh, ro, lk, y, rfl, _⟩ := h
    rfl
  · obtain ⟨h, f, dh, ro, lk, y, rfl, hh, hr0, hf, k⟩ := h
    refine ⟨_, (pss_cons (ps_set (i := 2) sc_add_locked.nd rfl (Or.inl rfl) (pe_callB call_len_seq (by rfl) G.b_len (by decide +kernel) (pa_cons (pv 1) pa_nil)))
  (pss_one (ps_if (PW.pt (pw_and (pt_cmpR op_lt (pv 2) (pe_callB call_len_seq (by rfl) G.b_len (by decide +kernel) (pa_cons (pe_fld (pv 0) rfl) pa_nil)) (nomark _)) (pw_and (pt_cmpR op_notN (pe_ix ix_list (pe_fld (pv 0) rfl) (pv 2) (fun _ _ => rfl)) pe_non (nomark _)) (pw_and1 (pt_cmpR op_gt (pe_fld (pe_ix ix_list (pe_fld (pv 0) rfl) (pv 2) (fun _ _ => rfl)) rfl) pe_int (nomark _)))))) (pss_cons ps_never
  (pss_one ps_never)) pss_nil))), ?_⟩
    refine ⟨_, rfl, f, [], rfl, .inl (SqL.of hf), ?_⟩
    refine ⟨_, rfl, _, rfl, h, _, _, _, _, rfl, hh, G.cl_History, G.n_History_row, rfl, ro, [], rfl, .inl (SqL.of hr0), ?_⟩
    exact ⟨_, _, rfl, rfl, _, rfl, iteF (iteF k)⟩
def spArr (A : Adr) : Sp := fun vs H Q _ => ∃ (h dh ro lk : Addr) (y : Nat → V), vs = [.ref h] ∧ H h = some (.ins A.c_History dh (hisF ro lk y)) ∧ H ro = some (.lst []) ∧ H lk = some (.lst []) ∧
  ∀ H1 l, Same H H1 → H l = none → H1 l = some (.lst []) → Q .non (upd H1 h (.ins A.c_History dh (hisF ro l y)))
theorem ok_arrange_locked (G : Txt K mg A) : FnOk P w K mg base CX0 2 A.a_arrange_locked A.fd_arrange_locked p_arrange_locked (spArr A) := by
  refine G.f_arrange_locked.ok sc_arrange_locked (fun vs H Q E h => ?_) (fun cdv A' outer s H vs Q E hr h => ?_)
  · obtain ⟨h, dh, ro, lk, y, rfl, _⟩ := h
    rfl
  · obtain ⟨h, dh, ro, lk, y, rfl, hh, hr0, hl, k⟩ := h
    refine ⟨_, (pss_cons (ps_set (i := 1) sc_arrange_locked.nd rfl (Or.inl rfl) (pe_callTy call_list_of (by rfl) G.b_list (by decide +kernel) (pa_cons (pe_fld (pv 0) rfl) pa_nil)))
  (pss_cons (ps_expr (pe_call (ok_add_locked G) (hr.mono (by decide)) rfl G.g_add_locked G.k_add_locked G.bi_add_locked .nil pass0 (pa_cons (pv 0) (pa_cons (pv 1) pa_nil))))
  (pss_cons (ps_setLc (i := 2) (own := [("item", 3)]) (g := gName 3) rfl sc_arrange_locked.nd rfl rfl (sw_true rfl rfl rfl (by decide +kernel)) (pi_list (pv 1)) (blkOk_by (own := [("item", 3)]) (N := n_arrange_locked) (sc := defScope s_arrange_locked) (by decide +kernel)) (fun _ _ _ _ _ => pg_name (i := 3) sc_arrange_locked.nd rfl (Or.inl rfl)) (fun _ _ _ _ _ => pts_nev) (fun _ _ _ _ _ => (pv 3)))
  (pss_cons (ps_if (pt_cmpR op_lt (pe_callB call_len_seq (by rfl) G.b_len (by decide +kernel) (pa_cons (pv 2) pa_nil)) (pe_callB call_len_seq (by rfl) G.b_len (by decide +kernel) (pa_cons (pv 1) pa_nil)) (nomark _)) (pss_one ps_never) pss_nil)
  (pss_one (ps_fld (pv 0) (pv 2) rfl)))))), ?_⟩
    refine ⟨_, rfl, h, _, dh, _, _, rfl, hh, G.cl_History, G.n_History_locked, rfl, lk, [], rfl, .inl (SqL.of hl), fun f hf => ?_⟩
    have s1 := Same.new (o := .lst []) hf
    refine ⟨_, rfl, _, rfl, h, f, dh, ro, lk, y, rfl, s1 _ _ hh, s1 _ _ hr0, upd_same, ?_⟩
    refine ⟨_, rfl, f, rfl, ⟨_, SqL.of upd_same⟩, fun D hD => ?_⟩
    have s2 := s1.trans (Same.new (o := .lst []) hD)
    refine lc_it (tt := fun _ _ _ => False) (te := tVar 3) (walk_list (K := K) (a := f) (xs := [])) (fun j Z => Z = upd (upd H f (.lst [])) D (.lst [])) rfl (fun j Z _ z => by rw [z]; exact SqL.of (Same.new hD _ _ upd_same)) ?_ ?_
    · rintro j y Z0 Z hj _ ⟨rfl, hy⟩
      cases hy
    · rintro Z rfl
      obtain ⟨nDf, hD0⟩ := upd_none hD
      refine ⟨_, rfl, D, [], rfl, .inl (SqL.of upd_same), ?_⟩
      refine ⟨_, rfl, f, [], rfl, .inl (SqL.of (Same.new hD _ _ upd_same)), ?_⟩
      refine ⟨_, _, rfl, rfl, _, rfl, iteF ?_⟩
      refine ⟨_, rfl, _, rfl, h, _, _, _, rfl, s2 _ _ hh, G.cl_History, G.n_History_locked, (by show 14 < 1000; decide), k _ D s2 hD0 upd_same⟩
/-- a step is counted -/
def spEnd (A : Adr) : Sp := fun vs H Q _ => ∃ (x : Addr) (wh : Wh) (S : Sys) (τ : Tm), vs = [.ref x] ∧ Sr A H x wh S τ ∧ ∀ H' τ', Go τ H τ' H' → Sr A H' x wh { S with n := S.n + 1 } τ' → Q .non H'
theorem ok_end_step (G : Txt K mg A) : FnOk P w K mg base CX0 3 A.a_end_step A.fd_end_step p_end_step (spEnd A) := by
  refine G.f_end_step.ok sc_end_step (fun vs H Q E h => ?_) (fun cdv A' outer s H vs Q E hr h => ?_)
  · obtain ⟨x, wh, S, τ, rfl, _⟩ := h
    rfl
  · obtain ⟨x, wh, S, τ, rfl, hS, k⟩ := h
    refine ⟨_, (pss_cons (ps_expr (pe_call (ok_arrange_locked G) (hr.mono (by decide)) rfl G.g_arrange_locked G.k_arrange_locked G.bi_arrange_locked .nil pass0 (pa_cons (pe_fld (pv 0) rfl) pa_nil)))
  (pss_one (ps_fldaug (pv 0) pe_int in_add))), ?_⟩
    obtain ⟨dh, lk, y, e1, e2, e3⟩ := hS.his.at_
    refine ⟨_, rfl, x, _, _, _, _, rfl, hS.hx, G.cl_System, G.n_System_history, rfl, wh.hi, dh, wh.ro, lk, y, rfl, e1, hS.his.ro, e2, fun H1 l s1 hl0 hl1 => ?_⟩
    have S1 := hS.same s1
    have S2 := S1.putHis (dh' := dh) (lk' := l) (y' := y) (s1 _ _ e1) hl1 (hS.fresh hl0)
    refine ⟨_, rfl, x, _, _, _, _, rfl, S2.hx, G.cl_System, G.n_System_steps_made, rfl, S.n, 1, rfl, rfl, _, _, S2.hx, (by show 18 < 1000; decide), k _ (setTag τ l .lks) ?_ ?_⟩
    · have g1 := hS.goHis (dh' := dh) (y' := y) s1 e1 hl0 hl1
      exact g1.trans (Go.upd (by rw [S2.tx]; simp) S2.hx)
    · have e := cntS_tabs (S := S) (S' := { S with n := S.n + 1 }) rfl
      show SyA _ _ _ _ _ _ _ _ (cntS { S with n := S.n + 1 })
      rw [← e]
      exact S2.put (n' := S.n + 1) (o' := S.o) (Int.le_refl _) hS.bo.2
def spThis (A : Adr) : Sp := fun vs H Q _ => ∃ (x : Addr) (wh : Wh) (S : Sys) (τ : Tm) (cnt : Int → Int → Nat), vs = [.ref x] ∧ Sa A H x wh S τ cnt ∧ Q (.int (S.n + 1)) H
theorem ok_this_step (G : Txt K mg A) : FnOk P w K mg base CX0 1 A.a_this_step A.fd_this_step p_this_step (spThis A) := by
  refine G.f_this_step.ok sc_this_step (fun vs H Q E h => ?_) (fun cdv A' outer s H vs Q E hr h => ?_)
  · obtain ⟨x, wh, S, τ, cnt, rfl, _⟩ := h
    rfl
  · obtain ⟨x, wh, S, τ, cnt, rfl, hS, k⟩ := h
    refine ⟨_, (pss_one (ps_ret (pe_op op_add (pe_fld (pv 0) rfl) pe_int))), ?_⟩
    exact ⟨_, rfl, x, _, _, _, _, rfl, hS.hx, G.cl_System, G.n_System_steps_made, rfl, S.n, 1, rfl, rfl, k⟩
end
end My
set_option Elab.async false
set_option linter.all false
set_option maxRecDepth 100000
set_option maxHeartbeats 4000000
namespace My
open PySem L2
local macro_rules | `(tactic| walk_at "ds") => `(tactic| dsimp only [tSeq, tIfS, tTest, tB, tAnd, tOr, tNot, tAndV, tOrV, tNotV, tIf, tIsN, tNotN, tOp, tUn, tChain, rI, rI0, rU, tC, tCB, tCons, tNil, tAsg, gName, gSub, tRet, tRetN, tNext, tDrop, tLst, tTup, rIxL, rIxT, rSetL, tVar, tFld, tCall, tDGet, tDIn, tDNotIn, tNever, L2.start, List.map, List.replicate, List.length, List.append, List.cons_append, List.nil_append, List.set, Nat.sub])
local macro_rules | `(tactic| walk_at "hp") => `(tactic| first | assumption | exact upd_same | (refine Eq.trans (upd_ne (by first | assumption | (apply Ne.symm; assumption))) ?_; walk_at "hp"))
local macro_rules | `(tactic| walk_at "sd") => `(tactic| first
  | (show (_ : Int) ≠ 0; omega)
  | (refine (show CDivN _ _ from ⟨?_, ?_⟩) <;> omega)
  | (show CPow _ _; refine ⟨by omega, by omega, by omega⟩)
  | (show CMul _ _; exact Or.inl ⟨by omega, by omega⟩)
  | (show CMul _ _; exact Or.inr ⟨by omega, by omega⟩))
local macro_rules | `(tactic| walk_at "st") => `(tactic| first
  | refine ⟨_, rfl, ?_⟩
  | refine ⟨_, _, rfl, rfl, (by walk_at "sd"), ?_⟩
  | refine ⟨_, _, rfl, rfl, ?_⟩
  | refine ⟨_, _, _, _, rfl, rfl, SqL.of (by walk_at "hp"), rfl, ?_⟩
  | refine ⟨_, _, _, _, rfl, rfl, (by walk_at "hp"), rfl, ?_⟩
  | refine .inl ⟨_, rfl, ?_⟩
  | refine ⟨_, _, _, _, _, rfl, (by walk_at "hp"), (by assumption), (by assumption), rfl, ?_⟩
  | refine ⟨_, _, rfl, .inl (SqL.of (by walk_at "hp")), ?_⟩)
local macro_rules | `(tactic| walk_at "go") => `(tactic| repeat (first | walk_at "st" | (walk_at "ds"; walk_at "st")))
local macro_rules | `(tactic| walk_at "ni") => `(tactic| dsimp (config := { proj := false }) only [tNil, List.cons_append, List.nil_append])
section
variable {P : Program} {w : World} {K : PySem.W.Frag} {mg : Str → Option Value} {base : Heap} {A : Adr}
def spCount (A : Adr) : Sp := fun vs H Q _ => ∃ (x : Addr) (wh : Wh) (S : Sys) (τ : Tm) (cnt : Int → Int → Nat) (p : Addr) (g : Pg), vs = [.ref x, .ref p] ∧ Sa A H x wh S τ cnt ∧ PgR A.c_Page H p g ∧ WfP g ∧ (∀ k, g.src = .obj k → 1 ≤ k ∧ k ≤ S.o) ∧
  ∀ H' τ', Go τ H τ' H' → H' wh.t = H wh.t → Sa A H' x wh S τ' (incC cnt g) → Q .non H'
theorem ok_count_page (G : Txt K mg A) : FnOk P w K mg base CX0 2 A.a_count_page A.fd_count_page p_count_page (spCount A) := by
  refine G.f_count_page.ok sc_count_page (fun vs H Q E h => ?_) (fun cdv A' outer s H vs Q E hr h => ?_)
  · obtain ⟨x, wh, S, τ, cnt, p, g, rfl, _⟩ := h
    rfl
  · obtain ⟨x, wh, S, τ, cnt, p, g, rfl, hS, hp, wf, ob, k⟩ := h
    obtain ⟨dx, sv, fa, e, hs, hf⟩ := id hp
    obtain ⟨cl, a3, a4, a5, a6, a7, a8, a9, a10⟩ := G.sysN
    refine ⟨_, (pss_cons (ps_set (i := 2) sc_count_page.nd rfl (Or.inl rfl) (pe_fld (pv 1) rfl))
  (pss_one (ps_if (pt_cmpR op_notN (pv 2) pe_non (nomark _)) (pss_cons ps_never
  (pss_one ps_never)) (pss_one (ps_if (pt_val (pe_call (ok_has_object G) (hr.mono (by decide)) rfl G.g_has_object G.k_has_object G.bi_has_object .nil pass0 (pa_cons (pv 1) pa_nil))) (pss_cons (ps_set (i := 3) sc_count_page.nd rfl (Or.inl rfl) (pe_dsetd (pe_fld (pv 0) rfl) (pe_ix ix_tup (pe_fld (pv 1) rfl) pe_int (fun _ _ => rfl)) pe_dnewK ⟨rfl, rfl, rfl, rfl⟩))
  (pss_one (ps_dput (hu_of hr) (pv 3) (pe_fld (pv 1) rfl) (pe_op op_add (pe_dget2 (hu_of hr) (pv 3) (pe_fld (pv 1) rfl) pe_int ⟨rfl, rfl, rfl, rfl⟩) pe_int) rfl))) pss_nil))))), ?_⟩
    refine ⟨_, rfl, p, _, _, _, _, rfl, e, G.cl_Page, G.n_Page_held, rfl, _, rfl, rfl, _, rfl, iteF ?_⟩
    refine ⟨_, rfl, p, g, rfl, hp, wf, _, rfl, iteB (fun c => ?_) (fun c => ?_)⟩
    · obtain ⟨j, ej⟩ : ∃ j, g.src = .obj j := by
        cases es : g.src with
        | obj j => exact ⟨j, rfl⟩
        | non => rw [es] at c; cases c
        | file n => rw [es] at c; cases c
      obtain ⟨i, ei, i0, i1⟩ := wf.ix (by rw [ej]; simp)
      obtain ⟨b0, b1⟩ := ob j ej
      have hsh := wf.ob j ej
      rw [ej] at hs
      obtain ⟨a, rfl, ha⟩ := hs
      rw [ei] at e
      obtain ⟨okvs, fo, ho, _⟩ := hS.obs
      have inc : ∀ k' i', incC cnt g k' i' = setC cnt j (fun i' => if i' = i then cnt j i + 1 else cnt j i') k' i' := fun k' i' => by
        show cnt k' i' + cntO k' i' (some g) = (if k' = j then (fun i' => if i' = i then cnt j i + 1 else cnt j i') else cnt k') i'
        rw [cntO_is hsh ej ei]
        by_cases z : k' = j
        · rw [if_pos z, z]
          by_cases y : i' = i
          · rw [if_pos ⟨rfl, y⟩]
            simp only [y, if_pos]
          · rw [if_neg (fun q => y q.2)]
            simp only [if_neg y]
            omega
        · rw [if_neg z, if_neg (fun q => z q.1)]
          omega
      refine ⟨_, rfl, x, _, _, _, _, rfl, hS.hx, cl, a8, rfl, wh.ob, rfl, .inl ⟨okvs, .inl ho⟩, ?_⟩
      refine ⟨_, rfl, p, _, _, _, _, rfl, e, G.cl_Page, G.n_Page_source, rfl, a, _, 1, _, rfl, rfl, SqT.of ha, rfl, fun q hq => ?_⟩
      have s1 := Same.new (o := .dK []) hq
      have nq : ∀ {b : Addr} {o : HO}, H b = some o → b ≠ q := fun e => ne_of_none e hq
      refine ⟨okvs, Sum.inl j, s1 _ _ ho, rfl, Nat.lt_of_le_of_lt (hS.obLen ho) (by decide), fun v hv => ?_, fun hn => ?_⟩
      · -- the object is known
        obtain ⟨u, eu⟩ : ∃ u, v = .ref u := by
          rcases hS.obv ho j with z | ⟨u, z⟩
          · rw [hv] at z; cases z
          · rw [hv] at z; exact ⟨u, Option.some.inj z⟩
        subst eu
        obtain ⟨tu, ur, ne, _⟩ := hS.usr ho hv
        have ul := ur
        obtain ⟨ukvs, f, hu, di, hf1, hf2⟩ := ur
        have len := ul.len hu
        have hget : (valV ukvs (Sum.inl i)).getD (.int 0) = .int (cnt j i : Nat) := by
          rw [di.val, hf1]
          by_cases z : cnt j i = 0
          · rw [if_pos z, z]; rfl
          · rw [if_neg z]; rfl
        refine ⟨_, rfl, u, rfl, .inl ⟨ukvs, .inl (s1 _ _ hu)⟩, ?_⟩
        refine ⟨_, rfl, p, _, _, _, _, rfl, s1 _ _ e, G.cl_Page, G.n_Page_index, rfl, _, DGet.k (k := Sum.inl i) (s1 _ _ hu), _, 1, hget, rfl, ?_⟩
        refine ⟨_, rfl, _, rfl, p, _, _, _, _, rfl, s1 _ _ e, G.cl_Page, G.n_Page_index, rfl, u, _, rfl, DPut.k (k := Sum.inl i) (s1 _ _ hu) (Nat.lt_of_le_of_lt len (by decide)), ?_⟩
        have go : Go τ H τ (upd (upd H q (.dK [])) u (.dK (putK ukvs (Sum.inl i) (.int ((cnt j i : Nat) + 1))))) := (Go.same s1).trans (Go.upd (by rw [tu]; simp) (s1 _ _ hu))
        refine k _ τ go (by rw [upd_ne (ne_tag hS.tt tu (by simp)), upd_ne (ne_of_none hS.tabs.choose_spec.choose_spec.1 hq)]) (SyA.cong ((hS.same s1).putUsr (s1 _ _ ho) hv (c' := fun i' => if i' = i then cnt j i + 1 else cnt j i') ⟨_, _, upd_same, di.put i _, fun i' => ?_, fun i' h' => ?_⟩ ⟨i, by simp⟩) fun k' i' => (inc k' i').symm)
        · by_cases z : i' = i
          · simp only [z, if_pos]
            rw [if_neg (by omega)]
            rfl
          · simp only [if_neg z]
            exact hf1 i'
        · by_cases z : i' = i
          · rw [z]; exact ⟨i0, i1⟩
          · simp only [if_neg z] at h'
            exact hf2 i' h'
      · -- it is not
        have zero := hS.noUsr ho hn
        have nqo : wh.ob ≠ q := nq ho
        have e1 : ∀ {b : Addr} {o : HO}, H b = some o → b ≠ wh.ob → (upd (upd H q (.dK [])) wh.ob (.dK (putK okvs (Sum.inl j) (.ref q)))) b = some o := fun h n => by rw [upd_ne n]; exact s1 _ _ h
        have npo : p ≠ wh.ob := ne_of e ho (by intro z; cases z)
        have hq1 : (upd (upd H q (.dK [])) wh.ob (.dK (putK okvs (Sum.inl j) (.ref q)))) q = some (.dK []) := by rw [upd_ne (Ne.symm nqo), upd_same]
        refine ⟨_, rfl, q, rfl, .inl ⟨[], .inl hq1⟩, ?_⟩
        refine ⟨_, rfl, p, _, _, _, _, rfl, e1 e npo, G.cl_Page, G.n_Page_index, rfl, _, DGet.k (k := Sum.inl i) hq1, 0, 1, rfl, rfl, ?_⟩
        refine ⟨_, rfl, _, rfl, p, _, _, _, _, rfl, e1 e npo, G.cl_Page, G.n_Page_index, rfl, q, _, rfl, DPut.k (k := Sum.inl i) hq1 (by show 0 < sizeLine; decide), ?_⟩
        have eH : upd (upd (upd H q (.dK [])) wh.ob (.dK (putK okvs (Sum.inl j) (.ref q)))) q (.dK (putK [] (Sum.inl i) (.int (0 + 1)))) = upd (upd H q (.dK (putK [] (Sum.inl i) (.int (0 + 1))))) wh.ob (.dK (putK okvs (Sum.inl j) (.ref q))) := by
          rw [upd_comm nqo, upd_upd]
        rw [eH]
        have s2 := Same.new (o := .dK (putK [] (Sum.inl i) (.int (0 + 1)))) hq
        have tq := hS.fresh hq
        refine k _ _ ⟨fun b o n eb => ?_, fun b => ?_, fun b xs eb => by rw [upd_ne (fun z => by rw [z, ho] at eb; cases eb)]; exact s2 _ _ eb⟩ (by rw [upd_ne (ne_tag hS.tt hS.to (by simp)), upd_ne (ne_of_none hS.tabs.choose_spec.choose_spec.1 hq)]) (SyA.cong ((hS.same s2).newUsr (s2 _ _ ho) hn ⟨b0, b1⟩ tq (c' := fun i' => if i' = i then cnt j i + 1 else cnt j i') ⟨_, _, upd_same, DI.nil.put i _, fun i' => ?_, fun i' h' => ?_⟩ ⟨i, by simp⟩) fun k' i' => (inc k' i').symm)
        · rw [upd_ne (fun z => by rw [z, hS.to] at n; cases n)]
          exact s2 _ _ eb
        · by_cases z : b = q
          · rw [z]; exact .inr ⟨tq, hq⟩
          · exact .inl (setTag_ne z)
        · by_cases z : i' = i
          · simp only [z, if_pos]
            rw [if_neg (by omega), zero i]
            rfl
          · simp only [if_neg z]
            rw [if_pos (zero i')]
        · by_cases z : i' = i
          · rw [z]; exact ⟨i0, i1⟩
          · simp only [if_neg z] at h'
            exact absurd (zero i') h'
    · refine k H τ (Go.refl τ H) rfl (hS.cong fun k' i' => ?_)
      show cnt k' i' = cnt k' i' + cntO k' i' (some g)
      rw [cntO_no fun j ej => by rw [ej] at c; cases c]
      omega
def spDisU (A : Adr) : Sp := fun vs H Q _ => ∃ (x : Addr) (wh : Wh) (S : Sys) (τ : Tm) (cnt : Int → Int → Nat) (j i : Int), vs = [.ref x, .int j, .int i] ∧ Sa A H x wh S τ cnt ∧ 0 < cnt j i ∧
  ∀ H', Go τ H τ H' → H' wh.t = H wh.t → Sa A H' x wh S τ (setC cnt j fun i' => if i' = i then cnt j i - 1 else cnt j i') → Q .non H'
theorem ok_discount_user (G : Txt K mg A) : FnOk P w K mg base CX0 1 A.a_discount_user A.fd_discount_user p_discount_user (spDisU A) := by
  refine G.f_discount_user.ok sc_discount_user (fun vs H Q E h => ?_) (fun cdv A' outer s H vs Q E hr h => ?_)
  · obtain ⟨x, wh, S, τ, cnt, j, i, rfl, _⟩ := h
    rfl
  · obtain ⟨x, wh, S, τ, cnt, j, i, rfl, hS, pos, k⟩ := h
    obtain ⟨cl, a3, a4, a5, a6, a7, a8, a9, a10⟩ := G.sysN
    refine ⟨_, (pss_cons (ps_set (i := 3) sc_discount_user.nd rfl (Or.inl rfl) (pe_dget (hu_of hr) (pe_fld (pv 0) rfl) (pv 1) (fun _ _ => rfl)))
  (pss_cons (ps_daug (hu_of hr) (pv 3) (pv 2) pe_int in_sub (fun _ _ _ => rfl))
  (pss_cons (ps_if (pt_cmpR op_gt (pe_dget (hu_of hr) (pv 3) (pv 2) (fun _ _ => rfl)) pe_int (nomark _)) (pss_one ps_retN) pss_nil)
  (pss_cons (ps_ddel (pv 3) (pv 2))
  (pss_cons (ps_if (pt_cmp (pc_din (hu_of hr) (pe_tup (pa_cons (pv 1) (pa_cons (pv 2) pa_nil))) (pe_fld (pv 0) rfl))) (pss_cons ps_never
  (pss_one ps_never)) pss_nil)
  (pss_one (ps_if (pt_cmpR op_eq (pe_callB call_lenD (by rfl) G.b_len (by decide +kernel) (pa_cons (pv 3) pa_nil)) pe_int (nomark _)) (pss_one (ps_ddel (pe_fld (pv 0) rfl) (pv 1))) pss_nil))))))), ?_⟩
    obtain ⟨okvs, fo, ho, _⟩ := hS.obs
    obtain ⟨u, hv⟩ : ∃ u, valV okvs (Sum.inl j) = some (.ref u) := by
      rcases hS.obv ho j with z | z
      · have := hS.noUsr ho z i
        omega
      · exact z
    obtain ⟨tu, ur, ne, _⟩ := hS.usr ho hv
    have ul := ur
    obtain ⟨ukvs, f, hu, di, hf1, hf2⟩ := ur
    have len := ul.len hu
    have ntt : wh.t ≠ u := ne_tag hS.tt tu (by simp)
    have nto : wh.t ≠ wh.ob := ne_tag hS.tt hS.to (by simp)
    have hget : valV ukvs (Sum.inl i) = some (.int (cnt j i : Nat)) := by rw [di.val, hf1, if_neg (by omega)]
    refine ⟨_, rfl, x, _, _, _, _, rfl, hS.hx, cl, a8, rfl, _, rfl, wh.ob, _, rfl, (by rw [← hv]; exact DGet.k (k := Sum.inl j) ho), ?_⟩
    refine ⟨_, rfl, _, rfl, u, _, rfl, (by rw [← hget]; exact DGet.k (k := Sum.inl i) hu), _, 1, rfl, rfl, _, DPut.k (k := Sum.inl i) hu (Nat.lt_of_le_of_lt len (by decide)), ?_⟩
    have goU : ∀ {kvs' : List (Key × V)}, Go τ H τ (upd H u (.dK kvs')) := Go.upd (by rw [tu]; simp) hu
    have g1 : valV (putK ukvs (Sum.inl i) (.int ((cnt j i : Nat) - 1))) (Sum.inl i) = some (.int ((cnt j i : Nat) - 1)) := by rw [valV_put, if_pos rfl]
    refine ⟨_, rfl, _, rfl, u, _, rfl, (by rw [← g1]; exact DGet.k (k := Sum.inl i) upd_same), _, _, rfl, rfl, _, rfl, iteB (fun c => ?_) (fun c => ?_)⟩
    · have c' := of_decide_eq_true c
      refine k _ goU (upd_ne ntt) (hS.putUsr ho hv ⟨_, _, upd_same, di.put i _, fun i' => ?_, fun i' h' => ?_⟩ ⟨i, by simp only [if_pos]; omega⟩)
      · by_cases z : i' = i
        · simp only [z, if_pos]
          rw [if_neg (by omega), Int.natCast_sub (by omega)]
          rfl
        · simp only [if_neg z]
          exact hf1 i'
      · by_cases z : i' = i
        · rw [z]; exact hf2 i (by omega)
        · simp only [if_neg z] at h'
          exact hf2 i' h'
    · have c' := of_decide_eq_false c
      have one : cnt j i = 1 := by omega
      refine ⟨_, rfl, _, rfl, u, _, Sum.inl i, rfl, upd_same, rfl, by rw [g1]; rfl, ?_⟩
      rw [upd_upd]
      have di2 := (di.put i (.int ((cnt j i : Nat) - 1))).drop i
      generalize hkv : dropK (putK ukvs (Sum.inl i) (.int ((cnt j i : Nat) - 1))) (Sum.inl i) = kv2 at *
      have val2 : ∀ i', valV kv2 (Sum.inl i') = if (if i' = i then cnt j i - 1 else cnt j i') = 0 then none else some (.int ((if i' = i then cnt j i - 1 else cnt j i' : Nat) : Nat)) := fun i' => by
        rw [di2.val]
        by_cases z : i' = i
        · simp only [z, if_pos]
          rw [if_pos (by omega)]
        · simp only [if_neg z]
          exact hf1 i'
      have nuo : wh.ob ≠ u := ne_tag hS.to tu (by simp)
      have nux : x ≠ u := ne_tag hS.tx tu (by simp)
      have nug : wh.og ≠ u := ne_tag hS.tg tu (by simp)
      refine ⟨_, rfl, _, rfl, (by show 2 ≤ sizeLine; decide), fun t ht => ?_⟩
      obtain ⟨ntu, ht0⟩ := upd_none ht
      have e1 : ∀ {b : Addr} {o : HO}, H b = some o → b ≠ u → (upd (upd H u (.dK kv2)) t (.tup [V.int j, V.int i])) b = some o := fun h n => by rw [upd_ne (ne_of_none h ht0), upd_ne n]; exact h
      refine ⟨_, rfl, x, _, _, _, _, rfl, e1 hS.hx nux, cl, a9, rfl, wh.og, _, rfl, DGet.t (k := [Sum.inl j, Sum.inl i]) (e1 hS.ogs nug) upd_same, _, rfl, iteF ?_⟩
      have hu2 : (upd (upd H u (.dK kv2)) t (.tup [V.int j, V.int i])) u = some (.dK kv2) := by rw [upd_ne (Ne.symm ntu), upd_same]
      refine ⟨_, rfl, u, kv2, rfl, hu2, rfl, _, rfl, iteB (fun c2 => ?_) (fun c2 => ?_)⟩
      · have l0 : kv2.length = 0 := by
          have := V.int.inj (of_decide_eq_true c2)
          omega
        have nil : kv2 = [] := List.eq_nil_of_length_eq_zero l0
        subst nil
        refine ⟨_, rfl, x, _, _, _, _, rfl, e1 hS.hx nux, cl, a8, rfl, _, rfl, wh.ob, okvs, Sum.inl j, rfl, e1 ho nuo, rfl, by rw [hv]; rfl, ?_⟩
        have st := Same.new (o := .tup [V.int j, V.int i]) ht0
        have eH : upd (upd (upd H u (.dK [])) t (.tup [V.int j, V.int i])) wh.ob (.dK (dropK okvs (Sum.inl j))) = upd (upd (upd H t (.tup [V.int j, V.int i])) wh.ob (.dK (dropK okvs (Sum.inl j)))) u (.dK []) := by
          rw [upd_comm (Ne.symm ntu), upd_comm (Ne.symm nuo)]
        rw [eH]
        have h2 := (hS.same st).dropUsr (k := j) (st _ _ ho)
        have hu3 : (upd (upd H t (.tup [V.int j, V.int i])) wh.ob (.dK (dropK okvs (Sum.inl j)))) u = some (.dK ukvs) := by rw [upd_ne (Ne.symm nuo)]; exact st _ _ hu
        have h3 := h2.garb upd_same (by rw [val_drop, if_pos rfl]) tu (kvs' := []) hu3
        refine k _ (((Go.same st).trans (Go.upd (by rw [hS.to]; simp) (st _ _ ho))).trans (Go.upd (by rw [tu]; simp) hu3)) (by rw [upd_ne ntt, upd_ne nto, upd_ne (ne_of_none hS.tabs.choose_spec.choose_spec.1 ht0)]) (h3.cong fun k' i' => ?_)
        show (if k' = j then (fun _ => 0) else cnt k') i' = (if k' = j then (fun i' => if i' = i then cnt j i - 1 else cnt j i') else cnt k') i'
        by_cases z : k' = j
        · rw [if_pos z, if_pos z]
          have := val2 i'
          rw [show valV ([] : List (Key × V)) (Sum.inl i') = none from rfl] at this
          by_cases y : (if i' = i then cnt j i - 1 else cnt j i') = 0
          · exact y.symm
          · rw [if_neg y] at this
            cases this
        · rw [if_neg z, if_neg z]
      · have l0 : kv2.length ≠ 0 := fun z => of_decide_eq_false c2 (by rw [z]; rfl)
        have st := Same.new (o := .tup [V.int j, V.int i]) ht
        refine k _ (goU.trans (Go.same st)) (by rw [upd_ne (ne_of_none hS.tabs.choose_spec.choose_spec.1 ht0), upd_ne ntt]) (((hS.putUsr ho hv ⟨_, _, upd_same, di2, fun i' => (di2.val i').symm.trans (val2 i'), fun i' h' => ?_⟩ ?_)).same st)
        · by_cases z : i' = i
          · rw [z]; exact hf2 i (by omega)
          · simp only [if_neg z] at h'
            exact hf2 i' h'
        · obtain ⟨q, hq⟩ : ∃ q, q ∈ kv2 := by
            cases kv2 with
            | nil => exact absurd rfl l0
            | cons q r => exact ⟨q, List.mem_cons_self⟩
          obtain ⟨i', e1, e2⟩ := di2.of_mem hq
          refine ⟨i', fun z => ?_⟩
          have := val2 i'
          rw [if_pos z, di2.val, e2] at this
          cases this
def spDisc (A : Adr) : Sp := fun vs H Q _ => ∃ (x : Addr) (wh : Wh) (S : Sys) (τ : Tm) (cnt : Int → Int → Nat) (p : Addr) (g : Pg), vs = [.ref x, .ref p] ∧ Sa A H x wh S τ cnt ∧ PgR A.c_Page H p g ∧ WfP g ∧ (∀ k i, cntO k i (some g) ≤ cnt k i) ∧
  ∀ H', Go τ H τ H' → H' wh.t = H wh.t → Sa A H' x wh S τ (decC cnt g) → Q .non H'
theorem ok_discount_page (G : Txt K mg A) : FnOk P w K mg base CX0 2 A.a_discount_page A.fd_discount_page p_discount_page (spDisc A) := by
  refine G.f_discount_page.ok sc_discount_page (fun vs H Q E h => ?_) (fun cdv A' outer s H vs Q E hr h => ?_)
  · obtain ⟨x, wh, S, τ, cnt, p, g, rfl, _⟩ := h
    rfl
  · obtain ⟨x, wh, S, τ, cnt, p, g, rfl, hS, hp, wf, le, k⟩ := h
    obtain ⟨dx, sv, fa, e, hs, hf⟩ := id hp
    refine ⟨_, (pss_cons (ps_set (i := 2) sc_discount_page.nd rfl (Or.inl rfl) (pe_fld (pv 1) rfl))
  (pss_one (ps_if (pt_cmpR op_notN (pv 2) pe_non (nomark _)) (pss_cons ps_never
  (pss_cons ps_never
  (pss_one ps_never))) (pss_one (ps_if (pt_val (pe_call (ok_has_object G) (hr.mono (by decide)) rfl G.g_has_object G.k_has_object G.bi_has_object .nil pass0 (pa_cons (pv 1) pa_nil))) (pss_one (ps_expr (pe_call (ok_discount_user G) (hr.mono (by decide)) rfl G.g_discount_user G.k_discount_user G.bi_discount_user .nil pass0 (pa_cons (pv 0) (pa_cons (pe_ix ix_tup (pe_fld (pv 1) rfl) pe_int (fun _ _ => rfl)) (pa_cons (pe_fld (pv 1) rfl) pa_nil)))))) pss_nil))))), ?_⟩
    refine ⟨_, rfl, p, _, _, _, _, rfl, e, G.cl_Page, G.n_Page_held, rfl, _, rfl, rfl, _, rfl, iteF ?_⟩
    refine ⟨_, rfl, p, g, rfl, hp, wf, _, rfl, iteB (fun c => ?_) (fun c => ?_)⟩
    · obtain ⟨j, ej⟩ : ∃ j, g.src = .obj j := by
        cases es : g.src with
        | obj j => exact ⟨j, rfl⟩
        | non => rw [es] at c; cases c
        | file n => rw [es] at c; cases c
      obtain ⟨i, ei, i0, i1⟩ := wf.ix (by rw [ej]; simp)
      have hsh := wf.ob j ej
      rw [ej] at hs
      obtain ⟨a, rfl, ha⟩ := hs
      rw [ei] at e
      have pos : 0 < cnt j i := by
        have := le j i
        rw [cntO_is hsh ej ei, if_pos ⟨rfl, rfl⟩] at this
        omega
      refine ⟨_, rfl, _, rfl, p, _, _, _, _, rfl, e, G.cl_Page, G.n_Page_source, rfl, a, _, 1, _, rfl, rfl, SqT.of ha, rfl, _, rfl, p, _, _, _, _, rfl, e, G.cl_Page, G.n_Page_index, rfl, ?_⟩
      refine ⟨x, wh, S, τ, cnt, j, i, rfl, hS, pos, fun H' go et S' => k H' go et (S'.cong fun k' i' => ?_)⟩
      show (if k' = j then (fun i' => if i' = i then cnt j i - 1 else cnt j i') else cnt k') i' = cnt k' i' - cntO k' i' (some g)
      rw [cntO_is hsh ej ei]
      by_cases z : k' = j
      · rw [if_pos z, z]
        by_cases y : i' = i
        · rw [if_pos (show j = j ∧ i' = i from ⟨rfl, y⟩)]
          simp only [y, if_pos]
        · rw [if_neg (show ¬ (j = j ∧ i' = i) from fun q => y q.2)]
          simp only [if_neg y]
          omega
      · rw [if_neg z, if_neg (fun q => z q.1)]
        omega
    · refine k H (Go.refl τ H) rfl (hS.cong fun k' i' => ?_)
      show cnt k' i' = cnt k' i' - cntO k' i' (some g)
      rw [cntO_no fun j ej => by rw [ej] at c; cases c]
      omega
end
end My
set_option Elab.async false
set_option linter.all false
set_option maxRecDepth 100000
set_option maxHeartbeats 4000000
namespace My
open PySem L2
local macro_rules | `(tactic| walk_at "ds") => `(tactic| dsimp only [tSeq, tIfS, tTest, tB, tAnd, tOr, tNot, tAndV, tOrV, tNotV, tIf, tIsN, tNotN, tOp, tUn, tChain, rI, rI0, rU, tC, tCB, tCons, tNil, tAsg, gName, gSub, tRet, tRetN, tNext, tDrop, tLst, tTup, rIxL, rIxT, rSetL, tVar, tFld, tCall, tDGet, tDIn, tDNotIn, tNever, L2.start, List.map, List.replicate, List.length, List.append, List.cons_append, List.nil_append, List.set, Nat.sub])
local macro_rules | `(tactic| walk_at "hp") => `(tactic| first | assumption | exact upd_same | (refine Eq.trans (upd_ne (by first | assumption | (apply Ne.symm; assumption))) ?_; walk_at "hp"))
local macro_rules | `(tactic| walk_at "sd") => `(tactic| first
  | (show (_ : Int) ≠ 0; omega)
  | (refine (show CDivN _ _ from ⟨?_, ?_⟩) <;> omega)
  | (show CPow _ _; refine ⟨by omega, by omega, by omega⟩)
  | (show CMul _ _; exact Or.inl ⟨by omega, by omega⟩)
  | (show CMul _ _; exact Or.inr ⟨by omega, by omega⟩))
local macro_rules | `(tactic| walk_at "st") => `(tactic| first
  | refine ⟨_, rfl, ?_⟩
  | refine ⟨_, _, rfl, rfl, (by walk_at "sd"), ?_⟩
  | refine ⟨_, _, rfl, rfl, ?_⟩
  | refine ⟨_, _, _, _, rfl, rfl, SqL.of (by walk_at "hp"), rfl, ?_⟩
  | refine ⟨_, _, _, _, rfl, rfl, (by walk_at "hp"), rfl, ?_⟩
  | refine .inl ⟨_, rfl, ?_⟩
  | refine ⟨_, _, _, _, _, rfl, (by walk_at "hp"), (by assumption), (by assumption), rfl, ?_⟩
  | refine ⟨_, _, rfl, .inl (SqL.of (by walk_at "hp")), ?_⟩)
local macro_rules | `(tactic| walk_at "go") => `(tactic| repeat (first | walk_at "st" | (walk_at "ds"; walk_at "st")))
local macro_rules | `(tactic| walk_at "ni") => `(tactic| dsimp (config := { proj := false }) only [tNil, List.cons_append, List.nil_append])
section
variable {P : Program} {w : World} {K : PySem.W.Frag} {mg : Str → Option Value} {base : Heap} {A : Adr}
def spRepl (A : Adr) : Sp := fun vs H Q _ => ∃ (x : Addr) (wh : Wh) (S : Sys) (τ : Tm) (i : Int) (c : Addr) (ls : List (Key × V)) (ch : List (Int × Option Pg)) (T : Tb), vs = [.ref x, .int i, .ref c] ∧ Sr A H x wh S τ ∧ S.tabs i = some T ∧
  H c = some (.dK ls) ∧ τ c = none ∧ LsR A.c_Page H ls ch ∧ (ch.map (·.1)).Nodup ∧ (∀ q ∈ ch, 0 ≤ q.1 ∧ q.1 < 512) ∧ (∀ q ∈ ch, ∀ g, q.2 = some g → ∀ k, g.src = .obj k → 1 ≤ k ∧ k ≤ S.o) ∧
  ∀ H' τ', Go τ H τ' H' → Sr A H' x wh (S.setTab i (some (appT T ch))) τ' → Q .non H'
theorem ok_replace_pages (G : Txt K mg A) : FnOk P w K mg base CX0 3 A.a_replace_pages A.fd_replace_pages p_replace_pages (spRepl A) := by
  refine G.f_replace_pages.ok sc_replace_pages (fun vs H Q E h => ?_) (fun cdv A' outer s H vs Q E hr h => ?_)
  · obtain ⟨x, wh, S, τ, i, c, ls, ch, T, rfl, _⟩ := h
    rfl
  · obtain ⟨x, wh, S, τ, i, c, ls, ch, T, rfl, hS, hT, hc, tc, hl, nd, hb, hob, k⟩ := h
    obtain ⟨cl, a3, a4, a5, a6, a7, a8, a9, a10⟩ := G.sysN
    refine ⟨_, (pss_cons (ps_set (i := 3) sc_replace_pages.nd rfl (Or.inr rfl) (pe_dget (hu_of hr) (pe_fld (pv 0) rfl) (pv 1) (fun _ _ => rfl)))
  (pss_cons (ps_lock (ps_setLc (i := 4) (own := [("number", 5)]) (g := gName 5) rfl sc_replace_pages.nd rfl rfl (sw_true rfl rfl rfl (by decide +kernel)) (pi_keys (pv 2)) (blkOk_by (own := [("number", 5)]) (N := n_replace_pages) (sc := defScope s_replace_pages) (by decide +kernel)) (fun _ _ _ _ _ => pg_name (i := 5) sc_replace_pages.nd rfl (Or.inl rfl)) (fun _ _ _ _ _ => pts_one (pt_cmp (pc_din (hu_of hr) (pv 5) (pv 3)))) (fun _ _ _ _ _ => (pe_dget (hu_of hr) (pv 3) (pv 5) (fun _ _ => rfl)))))
  (pss_cons (ps_lock (ps_for PassesOwn.never rfl (pi_values (pv 2)) (pg_name (i := 6) sc_replace_pages.nd rfl (Or.inl rfl)) (pss_one (ps_if (pt_cmpR op_notN (pv 6) pe_non (nomark _)) (pss_one (ps_expr (pe_call (ok_count_page G) (hr.mono (by decide)) rfl G.g_count_page G.k_count_page G.bi_count_page .nil pass0 (pa_cons (pv 0) (pa_cons (pv 6) pa_nil))))) pss_nil))))
  (pss_cons (ps_for PassesOwn.never rfl (pi_list (pv 4)) (pg_name (i := 6) sc_replace_pages.nd rfl (Or.inl rfl)) (pss_one (ps_expr (pe_call (ok_discount_page G) (hr.mono (by decide)) rfl G.g_discount_page G.k_discount_page G.bi_discount_page .nil pass0 (pa_cons (pv 0) (pa_cons (pv 6) pa_nil))))))
  (pss_one (ps_lock (ps_for PassesOwn.never rfl (pi_items (pv 2)) (pg_tup rfl (pgs_cons (pg_name (i := 5) sc_replace_pages.nd rfl (Or.inl rfl)) (pgs_cons (pg_name (i := 6) sc_replace_pages.nd rfl (Or.inl rfl)) pgs_nil))) (pss_one (ps_if (pt_cmpR op_notN (pv 6) pe_non (nomark _)) (pss_one (ps_dput (hu_of hr) (pv 3) (pv 5) (pv 6) rfl)) (pss_one (ps_if (pt_cmp (pc_din (hu_of hr) (pv 5) (pv 3))) (pss_one (ps_ddel (pv 3) (pv 5))) pss_nil))))))))))), ?_⟩
    obtain ⟨d, hd⟩ := hS.living hT
    obtain ⟨bi, td, tkvs, tf, hdk, tdi, tpg⟩ := hS.tabE hd hT
    have b1000 : i ≤ 1000 := Int.le_trans bi.2 hS.bp.2
    have b0 : 0 ≤ i := by omega
    obtain ⟨kvt, ht, hvt⟩ := id hd
    have lnd := hl.length
    have l512 : ch.length ≤ 512 := by
      have := nod_len 512 (ch.map (·.1)) nd fun y hy => by
        obtain ⟨q, hq, rfl⟩ := List.mem_map.mp hy
        have := hb q hq
        omega
      rw [List.length_map] at this
      exact this
    have ncd : c ≠ d := fun e => by rw [e, td] at tc; cases tc
    have ntc : wh.t ≠ c := fun e => by rw [← e, hS.tt] at tc; cases tc
    refine ⟨_, rfl, x, _, _, _, _, rfl, hS.hx, cl, a7, rfl, _, rfl, wh.t, _, rfl, (by rw [← hvt]; exact DGet.k (k := Sum.inl i) ht), ?_⟩
    -- replaced
    refine ⟨c, _, hc, trivial, fun od => ?_⟩
    refine ⟨_, rfl, c, od, rfl, .inl ⟨ls, upd_same, fun D hD => ?_⟩⟩
    obtain ⟨nDc, hD0⟩ := upd_none hD
    refine lc_it walk_keys (fun j Z => Z c = some (.frz od (.dK ls)) ∧ (∃ xs, Z D = some (.lst xs) ∧ XsR A.c_Page H xs ((ch.take j).filterMap fun q => T q.1)) ∧ ∀ b o, b ≠ c → H b = some o → Z b = some o)
      ⟨by rw [upd_ne (Ne.symm nDc), upd_same], ⟨[], upd_same, True.intro⟩, fun b o hb ho => by rw [upd_ne (ne_of_none ho hD0), upd_ne hb]; exact ho⟩ (fun j Z _ z => z.1) ?_ ?_
    · rintro j y Z _ hj ⟨z1, ⟨xs, z2, z3⟩, z5⟩ ⟨rfl, key, v, hkey, rfl⟩
      obtain ⟨q, hq, ek, _⟩ := hl.get hkey
      simp only at ek
      subst ek
      have tk := take_succ hq
      refine ⟨rfl, ?_⟩
      refine ⟨_, rfl, _, rfl, d, _, rfl, DGet.k (k := Sum.inl q.1) (z5 _ _ (Ne.symm ncd) hdk), _, rfl, ?_⟩
      have rel := tpg q.1
      have eval : valV tkvs (Sum.inl q.1) = tf q.1 := tdi.val q.1
      cases ev : tf q.1 with
      | none =>
        rw [ev] at rel eval
        have eT : T q.1 = none := by
          cases eT : T q.1 with
          | none => rfl
          | some g => rw [eT] at rel; exact rel.elim
        rw [eval]
        refine iteF ⟨z1, ⟨xs, z2, ?_⟩, z5⟩
        rw [tk, List.filterMap_append]
        simpa [eT] using z3
      | some u =>
        rw [ev] at rel eval
        obtain ⟨g, eT⟩ : ∃ g, T q.1 = some g := by
          cases eT : T q.1 with
          | none => rw [eT] at rel; exact rel.elim
          | some g => exact ⟨g, rfl⟩
        rw [eT] at rel
        obtain ⟨_, wf, p', rfl, hp'⟩ := rel
        rw [eval]
        have lx := z3.length
        have lf := List.length_filterMap_le (fun q : Int × Option Pg => T q.1) (ch.take j)
        have lt := List.length_take_le j ch
        refine iteT ⟨_, rfl, _, rfl, d, _, rfl, (by rw [← eval]; exact DGet.k (k := Sum.inl q.1) (z5 _ _ (Ne.symm ncd) hdk)), _, z2, Nat.lt_of_le_of_lt (by omega : xs.length ≤ 10000) (by decide), ?_⟩
        refine ⟨by rw [upd_ne (Ne.symm nDc)]; exact z1, ⟨_, upd_same, ?_⟩, fun b o hb ho => by rw [upd_ne (ne_of_none ho hD0)]; exact z5 b o hb ho⟩
        rw [tk, List.filterMap_append]
        have : List.filterMap (fun q : Int × Option Pg => T q.1) [q] = [g] := by simp [eT]
        rw [this]
        exact z3.snoc ⟨wf, p', rfl, hp'⟩
    · rintro Z ⟨z1, ⟨xs, z2, z3⟩, z5⟩
      rw [hl.length, List.take_length] at z3
      refine ⟨z1, ?_⟩
      generalize hH1 : upd Z c (.dK ls) = H1
      have c1 : H1 c = some (.dK ls) := by rw [← hH1, upd_same]
      have l1 : H1 D = some (.lst xs) := by rw [← hH1, upd_ne nDc]; exact z2
      have s1 : Same H H1 := fun b o ho => by
        rw [← hH1]
        by_cases eb : b = c
        · rw [eb, upd_same, ← hc, ← eb, ho]
        · rw [upd_ne eb]
          exact z5 b o eb ho
      have tD := hS.fresh hD0
      have S1 := hS.same s1
      have kz : ∀ {u : HO}, ImmK H1 (upd H1 c u) := fun {u} => ImmK.upd c1 rfl
      have kp : ∀ {Z : Hp} {u v : HO}, Z c = some u → isImm u = false → ∀ {τ' : Tm}, τ' c = none → Kp τ' Z (upd Z c v) := fun {Z u v} e i {τ'} t b o e' h' => by
        by_cases z : b = c
        · rw [z] at e' h'
          rw [e] at e'
          cases e'
          rcases h' with h' | h'
          · exact absurd t h'
          · rw [i] at h'; cases h'
        · rw [upd_ne z]; exact e'
      have occ0 : ∀ k m, cntS S k m + occ ((ch.take 0).filterMap (·.2)) k m = cntS S k m := fun k m => Nat.add_zero _
      have occ1 : ∀ k m, cntS S k m + occ (ch.filterMap (·.2)) k m - occ ((ch.filterMap fun q => T q.1).take 0) k m = cntS S k m + occ (ch.filterMap (·.2)) k m := fun k m => Nat.sub_zero _
      -- for page in changes.values()
      refine ⟨c, _, c1, trivial, fun od2 => ?_⟩
      have l0 := hl.keep (ImmK.same s1)
      refine ⟨_, rfl, c, od2, ls, rfl, upd_same, for_it walk_values (fun j σ Z => ∃ τj, Go τ (upd H1 c (.frz od2 (.dK ls))) τj Z ∧ Z wh.t = H wh.t ∧ Sa A Z x wh S τj (fun k m => cntS S k m + occ ((ch.take j).filterMap (·.2)) k m) ∧ ∃ c6, σ = [some (.ref x), some (.int i), some (.ref c), some (.ref d), some (.ref D), none, c6])
        ⟨τ, Go.refl _ _, by rw [upd_ne ntc, s1 _ _ ht, ht], (S1.keep (kp c1 rfl tc)).cong (fun k m => (occ0 k m).symm), _, rfl⟩ (fun j σ Z _ z => by obtain ⟨τj, go, _⟩ := z; exact go.fr _ _ tc upd_same) ?_ ?_⟩
      · rintro j y σ Z0 Z hj ⟨τj, go, et, Sj, c6, rfl⟩ ⟨rfl, key, hk⟩
        obtain ⟨q, hq, ek, pv⟩ := l0.get hk
        have tk := take_succ hq
        have im : ImmK H1 Z := kz.trans ((S1.keep (kp c1 rfl tc)).imm go)
        cases eg : q.2 with
        | none =>
          rw [eg] at pv
          cases (show y = .non from pv)
          refine ⟨_, rfl, rfl, _, rfl, iteF ⟨τj, go, et, Sj.cong fun k m => ?_, _, rfl⟩⟩
          rw [tk, List.filterMap_append]
          simp [eg]
        | some g =>
          rw [eg] at pv
          obtain ⟨wf, p', rfl, hp'⟩ := pv
          refine ⟨_, rfl, rfl, _, rfl, iteT ⟨_, rfl, _, rfl, x, wh, S, τj, _, p', g, rfl, Sj, hp'.keep im, wf, hob q (List.mem_of_getElem? hq) g eg, fun H2 τ2 go2 et2 S2 => ⟨τ2, go.trans go2, et2.trans et, S2.cong fun k m => ?_, _, rfl⟩⟩⟩
          rw [tk, List.filterMap_append]
          have : List.filterMap (·.2) [q] = [g] := by simp [eg]
          rw [this, occ_append]
          show cntS S k m + occ ((ch.take j).filterMap (·.2)) k m + cntO k m (some g) = _
          have : occ [g] k m = cntO k m (some g) := by rw [occ_cons]; rfl
          omega
      · rintro σ Z ⟨τ1, go1, et1, S1', c6, rfl⟩
        rw [lnd, List.take_length] at S1'
        have zc : Z c = some (.frz od2 (.dK ls)) := go1.fr _ _ tc upd_same
        have tc1 : τ1 c = none := by
          rcases go1.ex c with z | z
          · exact z.trans tc
          · exact absurd z.2 (by rw [upd_same]; simp)
        refine ⟨zc, ?_⟩
        have S2 := S1'.keep (kp zc rfl tc1 (v := .dK ls))
        have go2 : Go τ H τ1 (upd Z c (.dK ls)) := by
          refine ⟨fun b o n e => ?_, fun b => ?_, fun b xs e => by
            have eb : b ≠ c := fun z => by rw [z, hc] at e; cases e
            rw [upd_ne eb]
            exact go1.ls b xs (by rw [upd_ne eb]; exact s1 _ _ e)⟩
          · by_cases eb : b = c
            · rw [eb, upd_same, ← hc, ← eb, e]
            · rw [upd_ne eb]
              exact go1.fr b o n (by rw [upd_ne eb]; exact s1 _ _ e)
          · rcases go1.ex b with z | ⟨z1, z2⟩
            · exact .inl z
            · refine .inr ⟨z1, ?_⟩
              obtain ⟨nb, z2⟩ := upd_none z2
              exact Same.free s1 z2
        have im2 : ImmK H (upd Z c (.dK ls)) := hS.imm go2
        have lD : (upd Z c (.dK ls)) D = some (.lst xs) := by
          rw [upd_ne nDc]
          exact go1.fr _ _ tD (by rw [upd_ne nDc]; exact l1)
        have tD1 : τ1 D = none := by
          rcases go1.ex D with z | z
          · exact z.trans tD
          · exact absurd z.2 (by rw [upd_ne nDc, l1]; simp)
        have lc2 : (upd Z c (.dK ls)) c = some (.dK ls) := upd_same
        have et2 : (upd Z c (.dK ls)) wh.t = H wh.t := by rw [upd_ne ntc]; exact et1
        generalize hH2 : upd Z c (.dK ls) = H2 at *
        have x2 := z3.keep im2
        have cntE := fun k m => cntS_app (S := S) (i := i) b0 b1000 hT nd hb k m
        -- for page in replaced
        refine ⟨_, rfl, D, rfl, ⟨_, SqL.of lD⟩, for_list (K := K) (a := D) (xs := xs) (fun j σ Z => Go τ1 H2 τ1 Z ∧ Z wh.t = H wh.t ∧ Sa A Z x wh S τ1 (fun k m => cntS S k m + occ (ch.filterMap (·.2)) k m - occ ((ch.filterMap fun q => T q.1).take j) k m) ∧ ∃ c6, σ = [some (.ref x), some (.int i), some (.ref c), some (.ref d), some (.ref D), none, c6])
          ⟨Go.refl _ _, et2, S2.cong fun k m => (occ1 k m).symm, _, rfl⟩ (fun j σ Z _ z => SqL.of (z.1.fr _ _ tD1 lD)) ?_ ?_⟩
        · rintro j y σ Z hy ⟨goj, et, Sj, c6, rfl⟩
          obtain ⟨g, hg, wf, p', rfl, hp'⟩ := x2.get hy
          have tk := take_succ hg
          refine ⟨_, rfl, _, rfl, x, wh, S, τ1, _, p', g, rfl, Sj, hp'.keep (S2.imm goj), wf, fun k m => ?_, fun H3 go3 et3 S3 => ⟨goj.trans go3, et3.trans et, S3.cong fun k m => ?_, _, rfl⟩⟩
          · have a := (cntE k m).2
            have b := occ_le_take (ch.filterMap fun q => T q.1) (j + 1) k m
            rw [tk, occ_append] at b
            have : occ [g] k m = cntO k m (some g) := by rw [occ_cons]; rfl
            show cntO k m (some g) ≤ cntS S k m + occ (ch.filterMap (·.2)) k m - occ ((ch.filterMap fun q => T q.1).take j) k m
            omega
          · show cntS S k m + occ (ch.filterMap (·.2)) k m - occ ((ch.filterMap fun q => T q.1).take j) k m - cntO k m (some g) = cntS S k m + occ (ch.filterMap (·.2)) k m - occ ((ch.filterMap fun q => T q.1).take (j + 1)) k m
            rw [tk, occ_append]
            have : occ [g] k m = cntO k m (some g) := by rw [occ_cons]; rfl
            omega
        · rintro σ Z ⟨go3, et3, S3, c6, rfl⟩
          rw [x2.length, List.take_length] at S3
          have S3' := S3.cong (fun k m => (cntE k m).1)
          have zc3 : Z c = some (.dK ls) := go3.fr _ _ tc1 lc2
          have im3 : ImmK H Z := im2.trans (S2.imm go3)
          refine ⟨c, _, zc3, trivial, fun od3 => ?_⟩
          have hd3 : TabOf Z wh i d := hd.keep (fun o e => et3.trans e)
          have S4 := S3'.keep (kp zc3 rfl tc1 (v := .frz od3 (.dK ls)))
          have td1 : τ1 d = some (.tab i) := (S3'.tabE hd3 hT).2.1
          have ntd : wh.t ≠ d := ne_tag S3'.tt td1 (by simp)
          refine ⟨_, rfl, c, od3, ls, rfl, upd_same, for_it walk_items (fun j σ Z' => Go τ1 (upd Z c (.frz od3 (.dK ls))) τ1 Z' ∧ Sa A Z' x wh (S.setTab i (some (appT T (ch.take j)))) τ1 (cntS (S.setTab i (some (appT T ch)))) ∧ TabOf Z' wh i d ∧ ∃ c5 c6, σ = [some (.ref x), some (.int i), some (.ref c), some (.ref d), some (.ref D), c5, c6])
            ⟨Go.refl _ _, by rw [show appT T (ch.take 0) = T from rfl, setTab_id hT]; exact S4, hd3.keep (fun o e => by rw [upd_ne ntc]; exact e), _, _, rfl⟩ (fun j σ Z' _ z => z.1.fr _ _ tc1 upd_same) ?_ ?_⟩
          · rintro j y σ Z1 Z2 hj ⟨go4, Sj, hdj, c5, c6, rfl⟩ ⟨T0, k0, v0, rfl, hT0, rfl, hk0, hv0⟩
            obtain ⟨⟨key, v⟩, hkv⟩ : ∃ q, ls[j]? = some q := ⟨ls[j], List.getElem?_eq_getElem hj⟩
            have hk1 : some (kV key) = some k0 := by have h := hk0; simp only [hkv] at h; exact h
            have hv1 : some v = some v0 := by have h := hv0; simp only [hkv] at h; exact h
            have hk2 := Option.some.inj hk1
            have hv2 := Option.some.inj hv1
            subst hk2 hv2
            obtain ⟨q, hq, ek, pv⟩ := hl.get hkv
            simp only at ek pv
            subst ek
            have tk := take_succ hq
            have at1 : appT T (ch.take (j + 1)) = setT (appT T (ch.take j)) q.1 q.2 := by rw [tk, appT_snoc]
            have sT := Same.new (o := .tup [kV (Sum.inl q.1), v]) hT0
            have S5 := Sj.same sT
            have hd5 := hdj.keep (H' := upd Z1 T0 (.tup [kV (Sum.inl q.1), v])) (fun o e => sT _ _ e)
            have go5 := go4.trans (Go.same sT)
            have im5 : ImmK H (upd Z1 T0 (.tup [kV (Sum.inl q.1), v])) := (im3.trans (ImmK.upd zc3 rfl)).trans (S4.imm go5)
            have bq := hb q (List.mem_of_getElem? hq)
            refine ⟨T0, _, rfl, SqT.of upd_same, rfl, _, _, rfl, _, _, rfl, rfl, ?_⟩
            generalize hZ5 : upd Z1 T0 (.tup [kV (Sum.inl q.1), v]) = Z5 at *
            obtain ⟨_, _, kv5, f5, hk5, di5, pg5⟩ := S5.tabE hd5 (setTab_at S i _)
            have fin : ∀ {kvs' : List (Key × V)}, TabR A.c_Page (upd Z5 d (.dK kvs')) d (setT (appT T (ch.take j)) q.1 q.2) → ∀ {c5 c6 : Option V}, Go τ1 (upd Z c (.frz od3 (.dK ls))) τ1 (upd Z5 d (.dK kvs')) ∧ Sa A (upd Z5 d (.dK kvs')) x wh (S.setTab i (some (appT T (ch.take (j + 1))))) τ1 (cntS (S.setTab i (some (appT T ch)))) ∧ TabOf (upd Z5 d (.dK kvs')) wh i d ∧ ∃ c5' c6', [some (V.ref x), some (.int i), some (.ref c), some (.ref d), some (.ref D), c5, c6] = [some (V.ref x), some (.int i), some (.ref c), some (.ref d), some (.ref D), c5', c6'] := fun {kvs'} r {c5 c6} => by
              refine ⟨go5.trans (Go.upd (by rw [td1]; simp) hk5), ?_, hd5.keep (fun o e => by rw [upd_ne ntd]; exact e), _, _, rfl⟩
              have := S5.putTab hd5 r
              rw [setTab_two] at this
              rw [at1]
              exact this
            cases eq2 : q.2 with
            | none =>
              rw [eq2] at pv at1 fin
              cases (show v = .non from pv)
              refine ⟨_, rfl, rfl, _, rfl, iteF ⟨_, rfl, _, rfl, d, _, rfl, DGet.k (k := Sum.inl q.1) hk5, _, rfl, ?_⟩⟩
              rw [di5.val]
              have rel := (pg5 q.1).none_iff
              cases ev : f5 q.1 with
              | none =>
                refine iteF ⟨go5, ?_, hd5, _, _, rfl⟩
                rw [at1, setT_none (rel.mp ev)]
                exact S5
              | some u =>
                refine iteT ⟨_, rfl, _, rfl, d, _, Sum.inl q.1, rfl, hk5, rfl, (by rw [di5.val, ev]; rfl), fin (tab_drop hk5 di5 pg5)⟩
            | some g =>
              rw [eq2] at pv at1 fin
              obtain ⟨wf, p', rfl, hp'⟩ := pv
              have len5 : kv5.length ≤ 512 := di5.len fun i' hi' => by
                have := (pg5 i').low hi'
                omega
              exact ⟨_, rfl, rfl, _, rfl, iteT ⟨_, rfl, _, rfl, _, rfl, d, _, rfl, DPut.k (k := Sum.inl q.1) hk5 (Nat.lt_of_le_of_lt len5 (by decide)), fin (tab_put hk5 di5 pg5 bq wf (hp'.keep im5))⟩⟩
          · rintro σ Z1 ⟨go4, Sj, hdj, c5, c6, rfl⟩
            rw [lnd, List.take_length] at Sj
            have zc4 : Z1 c = some (.frz od3 (.dK ls)) := go4.fr _ _ tc1 upd_same
            refine ⟨zc4, k _ τ1 ?_ (Sj.keep (kp zc4 rfl tc1))⟩
            have goZ : Go τ H τ1 Z := go2.trans go3
            refine ⟨fun b o n e => ?_, goZ.ex, fun b xs e => by
              have eb : b ≠ c := fun z => by rw [z, hc] at e; cases e
              rw [upd_ne eb]
              exact go4.ls b xs (by rw [upd_ne eb]; exact goZ.ls b xs e)⟩
            have e3 := goZ.fr b o n e
            by_cases eb : b = c
            · rw [eb, upd_same, ← hc, ← eb, e]
            · rw [upd_ne eb]
              have n1 : τ1 b = none := by
                rcases goZ.ex b with z | z
                · exact z.trans n
                · rw [e] at z; cases z.2
              exact go4.fr b o n1 (by rw [upd_ne eb]; exact e3)
end
end My
set_option Elab.async false
set_option linter.all false
set_option maxRecDepth 100000
set_option maxHeartbeats 4000000
namespace My
open PySem L2
local macro_rules | `(tactic| walk_at "ds") => `(tactic| dsimp only [tSeq, tIfS, tTest, tB, tAnd, tOr, tNot, tAndV, tOrV, tNotV, tIf, tIsN, tNotN, tOp, tUn, tChain, rI, rI0, rU, tC, tCB, tCons, tNil, tAsg, gName, gSub, tRet, tRetN, tNext, tDrop, tLst, tTup, rIxL, rIxT, rSetL, tVar, tFld, tCall, tDGet, tDIn, tDNotIn, tNever, L2.start, List.map, List.replicate, List.length, List.append, List.cons_append, List.nil_append, List.set, Nat.sub])
local macro_rules | `(tactic| walk_at "hp") => `(tactic| first | assumption | exact upd_same | (refine Eq.trans (upd_ne (by first | assumption | (apply Ne.symm; assumption))) ?_; walk_at "hp"))
local macro_rules | `(tactic| walk_at "sd") => `(tactic| first
  | (show (_ : Int) ≠ 0; omega)
  | (refine (show CDivN _ _ from ⟨?_, ?_⟩) <;> omega)
  | (show CPow _ _; refine ⟨by omega, by omega, by omega⟩)
  | (show CMul _ _; exact Or.inl ⟨by omega, by omega⟩)
  | (show CMul _ _; exact Or.inr ⟨by omega, by omega⟩))
local macro_rules | `(tactic| walk_at "st") => `(tactic| first
  | refine ⟨_, rfl, ?_⟩
  | refine ⟨_, _, rfl, rfl, (by walk_at "sd"), ?_⟩
  | refine ⟨_, _, rfl, rfl, ?_⟩
  | refine ⟨_, _, _, _, rfl, rfl, SqL.of (by walk_at "hp"), rfl, ?_⟩
  | refine ⟨_, _, _, _, rfl, rfl, (by walk_at "hp"), rfl, ?_⟩
  | refine .inl ⟨_, rfl, ?_⟩
  | refine ⟨_, _, _, _, _, rfl, (by walk_at "hp"), (by assumption), (by assumption), rfl, ?_⟩
  | refine ⟨_, _, rfl, .inl (SqL.of (by walk_at "hp")), ?_⟩)
local macro_rules | `(tactic| walk_at "go") => `(tactic| repeat (first | walk_at "st" | (walk_at "ds"; walk_at "st")))
local macro_rules | `(tactic| walk_at "ni") => `(tactic| dsimp (config := { proj := false }) only [tNil, List.cons_append, List.nil_append])
section
variable {P : Program} {w : World} {K : PySem.W.Frag} {mg : Str → Option Value} {base : Heap} {A : Adr}
def spRuns : Sp := fun vs H Q _ => ∃ (d : Addr) (kvs : List (Key × V)) (f : Int → Bool), vs = [.ref d] ∧ H d = some (.dK kvs) ∧ KS f kvs ∧ ∀ q H', Same H H' → H q = none → H' q = some (.lst ((runs f 512).map V.int)) → Q (.ref q) H'
theorem ok_free_runs (G : Txt K mg A) : FnOk P w K mg base CX0 1 A.a_free_runs A.fd_free_runs p_free_runs spRuns := by
  refine G.f_free_runs.ok sc_free_runs (fun vs H Q E h => ?_) (fun cdv A' outer s H vs Q E hr h => ?_)
  · obtain ⟨d, kvs, f, rfl, _⟩ := h
    rfl
  · obtain ⟨d, kvs, f, rfl, hd, hf, k⟩ := h
    refine ⟨_, (pss_cons (ps_set (i := 1) sc_free_runs.nd rfl (Or.inl rfl) (pe_lst pa_nil))
  (pss_cons (ps_set (i := 2) sc_free_runs.nd rfl (Or.inl rfl) pe_int)
  (pss_cons (ps_for PassesOwn.never rfl (pi_range1 rfl G.b_range (pa_cons (pe_glob (v := .int 512) rfl G.g_PAGES ⟨_, rfl⟩) pa_nil)) (pg_name (i := 3) sc_free_runs.nd rfl (Or.inl rfl)) (pss_cons (ps_set (i := 2) sc_free_runs.nd rfl (Or.inl rfl) (pe_ifExp (pt_cmp (pc_din (hu_of hr) (pv 3) (pv 0))) pe_int (pe_op op_add (pv 2) pe_int)))
  (pss_one (ps_expr (pe_bm PySem.F.plainAttrs_list PySem.F.slot_list_append PySem.F.type_list_append mt_append (pv 1) (pa_cons (pv 2) pa_nil))))))
  (pss_one (ps_ret (pv 1)))))), ?_⟩
    refine ⟨Nat.zero_le _, fun q hq => ?_⟩
    refine ⟨512, rfl, by decide, by decide, for_range (lo := 0) (n := 512) (fun i σ H' => (∃ c3, σ = [some (.ref d), some (.ref q), some (.int (runN f i)), c3]) ∧ Same H H' ∧ H' q = some (.lst ((runs f i).map V.int)))
      ⟨⟨_, rfl⟩, Same.new hq, upd_same⟩ ?_ ?_⟩
    · rintro i σ H1 hi ⟨⟨c3, rfl⟩, s1, l1⟩
      have ei : (0 : Int) + (i : Nat) = (i : Int) := Int.zero_add _
      rw [ei]
      refine ⟨_, rfl, _, rfl, d, _, rfl, DGet.k (k := Sum.inl (i : Int)) (s1 _ _ hd), _, rfl, ?_⟩
      rw [hf]
      have few : ((runs f i).map V.int).length < sizeLine := small1000 (by unfold runs; rw [List.length_map, List.length_map, List.length_range]; omega)
      have fin : ∀ r : Int, r = runN f (i + 1) → (∃ c3, [some (V.ref d), some (V.ref q), some (V.int r), some (V.int (i : Int))] = [some (V.ref d), some (V.ref q), some (V.int (runN f (i + 1))), c3]) ∧
          Same H (upd H1 q (.lst ((runs f i).map V.int ++ [V.int r]))) ∧ (upd H1 q (.lst ((runs f i).map V.int ++ [V.int r]))) q = some (.lst ((runs f (i + 1)).map V.int)) := fun r er => by
        refine ⟨⟨_, by rw [er]⟩, fun b o ho => ?_, ?_⟩
        · rw [upd_ne (ne_of_none ho hq)]
          exact s1 b o ho
        · rw [upd_same, runs_succ, List.map_append, er]
          rfl
      cases cf : f (i : Int) with
      | true => exact iteT ⟨_, rfl, .inl ⟨rfl, _, SqL.of l1⟩, _, rfl, q, _, _, rfl, rfl, l1, few, fin 0 (by unfold runN; rw [if_pos cf])⟩
      | false => exact iteF ⟨_, rfl, _, _, rfl, rfl, _, rfl, .inl ⟨rfl, _, SqL.of l1⟩, _, rfl, q, _, _, rfl, rfl, l1, few, fin _ (by rw [runN, if_neg (by rw [cf]; exact Bool.false_ne_true)])⟩
    · rintro σ H1 ⟨⟨c3, rfl⟩, s1, l1⟩
      exact ⟨_, rfl, k q H1 s1 hq l1⟩
def spGapL : Sp := fun vs H Q _ => ∃ (d : Addr) (c : Int) (kvs : List (Key × V)) (f : Int → Bool), vs = [.ref d, .int c] ∧ H d = some (.dK kvs) ∧ KS f kvs ∧ ∀ H', Same H H' → Q (fits f c) H'
theorem ok_lowest_gap (G : Txt K mg A) : FnOk P w K mg base CX0 2 A.a_lowest_gap A.fd_lowest_gap p_lowest_gap spGapL := by
  refine G.f_lowest_gap.ok sc_lowest_gap (fun vs H Q E h => ?_) (fun cdv A' outer s H vs Q E hr h => ?_)
  · obtain ⟨d, c, kvs, f, rfl, _⟩ := h
    rfl
  · obtain ⟨d, c, kvs, f, rfl, hd, hf, k⟩ := h
    refine ⟨_, (pss_cons (ps_for PassesOwn.never rfl (pi_enum rfl G.b_enumerate (pa_cons (pe_call (ok_free_runs G) (hr.mono (by decide)) rfl G.g_free_runs G.k_free_runs G.bi_free_runs .nil pass0 (pa_cons (pv 0) pa_nil)) pa_nil)) (pg_tup rfl (pgs_cons (pg_name (i := 2) sc_lowest_gap.nd rfl (Or.inl rfl)) (pgs_cons (pg_name (i := 3) sc_lowest_gap.nd rfl (Or.inl rfl)) pgs_nil))) (pss_one (ps_if (pt_cmpR op_eq (pv 3) (pv 1) (nomark _)) (pss_one (ps_ret (pe_op op_add (pe_op op_sub (pv 2) (pv 1)) pe_int))) pss_nil)))
  (pss_one (ps_ret pe_non))), ?_⟩
    refine ⟨_, rfl, d, kvs, f, rfl, hd, hf, fun q H1 s1 _ l1 => ?_⟩
    have len : ((runs f 512).map V.int).length = 512 := by unfold runs; rw [List.length_map, List.length_map, List.length_range]
    refine ⟨q, _, rfl, SqL.of l1, for_it walk_enum (fun i σ H' => (∃ c2 c3, σ = [some (.ref d), some (.int c), c2, c3]) ∧ Same H H' ∧ H' q = some (.lst ((runs f 512).map V.int)) ∧ ∀ j, j < i → runN f (j + 1) ≠ c)
      ⟨⟨_, _, rfl⟩, s1, l1, fun j hj => by omega⟩ (fun i σ H' _ hp => SqL.of hp.2.2.1) ?_ ?_⟩
    · rintro i y σ H2 H3 hi ⟨⟨c2, c3, rfl⟩, s2, l2, hb⟩ ⟨T, x0, y0, rfl, hT, rfl, hx0, hy0⟩
      cases hx0
      rw [len] at hi
      have hy1 : ((runs f 512).map V.int)[i]? = some y0 := hy0
      have hy2 : ((runs f 512).map V.int)[i]? = some (V.int (runN f (i + 1))) := by
        unfold runs
        rw [List.map_map, List.getElem?_map, List.getElem?_range hi]
        rfl
      rw [hy2] at hy1
      cases hy1
      have s3 := s2.trans (Same.new (o := .tup [V.int (i : Int), V.int (runN f (i + 1))]) hT)
      refine ⟨T, _, rfl, SqT.of upd_same, rfl, _, _, rfl, _, _, rfl, rfl, ?_⟩
      refine ⟨_, rfl, _, rfl, rfl, _, rfl, ?_⟩
      by_cases e : runN f (i + 1) = c
      · rw [decide_eq_true (by rw [e])]
        refine iteT ⟨_, rfl, _, rfl, _, _, rfl, rfl, _, _, rfl, rfl, ?_⟩
        have := k _ s3
        rw [fits_at hi e hb] at this
        exact this
      · rw [decide_eq_false (fun z => e (V.int.inj z))]
        refine iteF ⟨⟨_, _, rfl⟩, s3, Same.new hT _ _ l2, fun j hj => ?_⟩
        by_cases z : j = i
        · rw [z]; exact e
        · exact hb j (by omega)
    · rintro σ H2 ⟨⟨c2, c3, rfl⟩, s2, l2, hb⟩
      rw [len] at hb
      have := k _ s2
      rw [fits_no hb] at this
      exact this
def spPlace (A : Adr) : Sp := fun vs H Q E => ∃ (d : Addr) (c : Int) (at_ : V) (kvs : List (Key × V)) (f : Int → Bool), vs = [.ref d, .int c, at_] ∧ H d = some (.dK kvs) ∧ KS f kvs ∧ AnyV H at_ ∧
  (inR 0 (512 - c) (placeV f c at_) = true → ∀ H', Same H H' → Q (placeV f c at_) H') ∧ (inR 0 (512 - c) (placeV f c at_) = false → Rz A.c_NoPages "part" (.str "at") H E)
theorem ok_place_for (G : Txt K mg A) : FnOk P w K mg base (L2.CX P w) 4 A.a_place_for A.fd_place_for p_place_for (spPlace A) := by
  refine G.f_place_for.okX sc_place_for (fun vs H Q E h => ?_) (fun cdv A' outer s H vs Q E hr h => ?_)
  · obtain ⟨d, c, at_, kvs, f, rfl, _⟩ := h
    rfl
  · obtain ⟨d, c, at_, kvs, f, rfl, hd, hf, ha, k1, k2⟩ := h
    refine ⟨_, (pss_cons (ps_set (i := 3) sc_place_for.nd rfl (Or.inl rfl) (pe_ifExp (pt_cmpR op_isN (pv 2) pe_non (nomark _)) (pe_call (ok_lowest_gap G) (hr.mono (by decide)) rfl G.g_lowest_gap G.k_lowest_gap G.bi_lowest_gap .nil pass0 (pa_cons (pv 0) (pa_cons (pv 1) pa_nil))) (pv 2)))
  (pss_cons (ps_expr (pe_call (ok_require G) (hr.mono (by decide)) rfl G.g_require G.k_require G.bi_require .nil (passes_call (takes_of rfl rfl rfl rfl) (fun _ _ _ _ z => z)) (pa_cons (pe_call (ok_is_integer G) (hr.mono (by decide)) rfl G.g_is_integer G.k_is_integer G.bi_is_integer .nil pass0 (pa_cons (pv 3) (pa_cons pe_int (pa_cons (pe_op op_sub (pe_glob (v := .int 512) rfl G.g_PAGES ⟨_, rfl⟩) (pv 1)) pa_nil)))) (pa_cons pe_str pa_nil))))
  (pss_one (ps_ret (pv 3))))), ?_⟩
    refine ⟨_, rfl, rfl, _, rfl, ?_⟩
    by_cases e0 : at_ = .non
    · rw [decide_eq_true e0]
      refine iteT ⟨_, rfl, _, rfl, d, c, kvs, f, rfl, hd, hf, fun H1 s1 => ?_⟩
      have e : placeV f c at_ = fits f c := if_pos e0
      rw [e] at k1 k2
      refine ⟨_, rfl, _, rfl, _, _, rfl, rfl, _, 0, 512 - c, rfl, (fits_any f c H1).1, inR 0 (512 - c) (fits f c), _, rfl, fun z => ⟨_, rfl, k1 z H1 s1⟩, fun z => (k2 z).same s1⟩
    · rw [decide_eq_false e0]
      have e : placeV f c at_ = at_ := if_neg e0
      rw [e] at k1 k2
      exact iteF ⟨_, rfl, _, rfl, _, rfl, _, _, rfl, rfl, _, 0, 512 - c, rfl, ha, inR 0 (512 - c) at_, _, rfl, fun z => ⟨_, rfl, k1 z H (Same.refl H)⟩, fun z => k2 z⟩
def spFileOf (A : Adr) : Sp := fun vs H Q E => ∃ (x : Addr) (wh : Wh) (S : Sys) (τ : Tm) (cnt : Int → Int → Nat) (nm : V), vs = [.ref x, nm] ∧ Sa A H x wh S τ cnt ∧ AnyV H nm ∧
  (∀ n, nm = .str n → S.fls n = true → ∀ v, Q v H) ∧ ((∀ n, nm = .str n → S.fls n = false) → Rz A.c_NoFile "name" nm H E)
theorem ok_file_of (G : Txt K mg A) : FnOk P w K mg base (L2.CX P w) 3 A.a_file_of A.fd_file_of p_file_of (spFileOf A) := by
  refine G.f_file_of.okX sc_file_of (fun vs H Q E h => ?_) (fun cdv A' outer s H vs Q E hr h => ?_)
  · obtain ⟨x, wh, S, τ, cnt, nm, rfl, _⟩ := h
    rfl
  · obtain ⟨x, wh, S, τ, cnt, nm, rfl, hS, hv, k1, k2⟩ := h
    obtain ⟨cl, a3, a4, a5, a6, a7, a8, a9, a10⟩ := G.sysN
    refine ⟨_, (pss_cons (ps_if (PW.pt (pw_or (pt_not (pt_val (pe_callB call_isi (by rfl) G.b_isinstance (by decide +kernel) (pa_cons (pv 1) (pa_cons (pe_bltn (v := .ty "str") (u := .type "str") (by rfl) G.b_str (by decide +kernel) rfl) pa_nil))))) (pw_or1 (pt_cmp (pc_dnotin (hu_of hr) (pv 1) (pe_fld (pv 0) rfl)))))) (pss_one (ps_raise rfl (takes_of rfl rfl rfl rfl) (pmk_oex G.x_NoFile G.xi_NoFile G.xt_NoFile (ok_NoFile_init G) (hr.mono (by decide)) G.bi_NoFile_init .nil pass0 rfl G.g_NoFile (pa_cons (pv 1) pa_nil)))) pss_nil)
  (pss_one (ps_ret (pe_dget (hu_of hr) (pe_fld (pv 0) rfl) (pv 1) (fun _ _ => rfl))))), ?_⟩
    obtain ⟨t, h1, _, _, h4, _⟩ := hv.ty (K := K)
    obtain ⟨fkvs, hf, hfv, _⟩ := hS.fis
    have fin : (∀ n, nm = .str n → S.fls n = false) → tMkO A.c_NoFile (spXi K "name") [] (tCons (tVar 1) tNil) (L2.start n_file_of [V.ref x, nm]) H (fun cls d H' => E cls d H') := fun hn =>
      ⟨_, rfl, (by show 1 ≤ 1000; decide), fun a ha => xi_done G.x_NoFile G.xn_NoFile ha (k2 hn)⟩
    refine ⟨_, rfl, nm, .ty "str", .type t, .type "str", _, rfl, .ty "str", h1, h4, _, rfl, ?_⟩
    cases e : isS nm with
    | false => exact iteT (iteT (fin fun n en => by subst en; cases e))
    | true =>
      obtain ⟨n, rfl⟩ : ∃ n, nm = V.str n := by cases nm <;> first | exact ⟨_, rfl⟩ | (cases e; done)
      refine iteF ⟨_, rfl, _, rfl, x, _, _, _, _, rfl, hS.hx, cl, a10, rfl, wh.fi, _, rfl, DGet.k (k := Sum.inr n) hf, _, rfl, ?_⟩
      rw [hfv]
      refine iteB (fun c => ?_) (fun c => ?_)
      · exact fin fun m em => by rw [← V.str.inj em]; simpa using c
      · have c' : S.fls n = true := by simpa using c
        obtain ⟨v, ev⟩ : ∃ v, valV fkvs (Sum.inr n) = some v := Option.isSome_iff_exists.mp ((hfv n).trans c')
        exact ⟨_, rfl, x, _, _, _, _, rfl, hS.hx, cl, a10, rfl, _, rfl, wh.fi, _, rfl, (by rw [← ev]; exact DGet.k (k := Sum.inr n) hf), k1 n rfl c' v⟩
def spSrcq (A : Adr) : Sp := fun vs H Q E => ∃ (x : Addr) (wh : Wh) (S : Sys) (τ : Tm) (cnt : Int → Int → Nat) (sov : V) (sh : Bool), vs = [.ref x, sov, .bl sh] ∧ Sa A H x wh S τ cnt ∧ AnyV H sov ∧
  SrcC A.c_NoPages A.c_NoFile H S.fls cnt sov sh E (fun _ => ∀ H', Same H H' → Q .non H')
theorem ok_require_source (G : Txt K mg A) : FnOk P w K mg base (L2.CX P w) 4 A.a_require_source A.fd_require_source p_require_source (spSrcq A) := by
  refine G.f_require_source.okX sc_require_source (fun vs H Q E h => ?_) (fun cdv A' outer s H vs Q E hr h => ?_)
  · obtain ⟨x, wh, S, τ, cnt, sov, sh, rfl, _⟩ := h
    rfl
  · obtain ⟨x, wh, S, τ, cnt, sov, sh, rfl, hS, hv, k1, k2, k3⟩ := h
    obtain ⟨cl, a3, a4, a5, a6, a7, a8, a9, a10⟩ := G.sysN
    refine ⟨_, (pss_cons (ps_if (pt_cmpR op_isN (pv 1) pe_non (nomark _)) (pss_one ps_retN) pss_nil)
  (pss_cons (ps_expr (pe_call (ok_require G) (hr.mono (by decide)) rfl G.g_require G.k_require G.bi_require .nil (passes_call (takes_of rfl rfl rfl rfl) (fun _ _ _ _ z => z)) (pa_cons (pe_and (pe_callB call_isi (by rfl) G.b_isinstance (by decide +kernel) (pa_cons (pv 1) (pa_cons (pe_bltn (v := .ty "tuple") (u := .type "tuple") (by rfl) G.b_tuple (by decide +kernel) rfl) pa_nil))) (pe_one (pe_cmpR op_eq (pe_callB call_len_seq (by rfl) G.b_len (by decide +kernel) (pa_cons (pv 1) pa_nil)) pe_int (nomark _)))) (pa_cons pe_str pa_nil))))
  (pss_cons (ps_asg (pv 1) (pg_tup rfl (pgs_cons (pg_name (i := 3) sc_require_source.nd rfl (Or.inl rfl)) (pgs_cons (pg_name (i := 4) sc_require_source.nd rfl (Or.inl rfl)) pgs_nil))))
  (pss_cons (ps_expr (pe_call (ok_require G) (hr.mono (by decide)) rfl G.g_require G.k_require G.bi_require .nil (passes_call (takes_of rfl rfl rfl rfl) (fun _ _ _ _ z => z)) (pa_cons (pe_call (ok_is_word G) (hr.mono (by decide)) rfl G.g_is_word G.k_is_word G.bi_is_word .nil pass0 (pa_cons (pv 3) (pa_cons (pe_tup (pa_cons pe_str (pa_cons pe_str pa_nil))) pa_nil))) (pa_cons pe_str pa_nil))))
  (pss_one (ps_if (pt_cmpR op_eq (pv 3) pe_str (nomark _)) (pss_one (ps_expr (pe_call (ok_file_of G) (hr.mono (by decide)) rfl G.g_file_of G.k_file_of G.bi_file_of .nil (passes_call (takes_of rfl rfl rfl rfl) (fun _ _ _ _ z => z)) (pa_cons (pv 0) (pa_cons (pv 4) pa_nil))))) (pss_one (ps_expr (pe_call (ok_require G) (hr.mono (by decide)) rfl G.g_require G.k_require G.bi_require .nil (passes_call (takes_of rfl rfl rfl rfl) (fun _ _ _ _ z => z)) (pa_cons (pe_and (pv 2) (pe_and (pe_call (ok_is_integer G) (hr.mono (by decide)) rfl G.g_is_integer G.k_is_integer G.bi_is_integer .nil pass0 (pa_cons (pv 4) (pa_cons pe_int (pa_cons (pe_fld (pv 0) rfl) pa_nil)))) (pe_one (pe_cmp (pc_din (hu_of hr) (pv 4) (pe_fld (pv 0) rfl)) rfl)))) (pa_cons pe_str pa_nil))))))))))), ?_⟩
    refine ⟨_, rfl, rfl, _, rfl, iteD (fun e => k1 e H (Same.refl H)) (fun e => ?_)⟩
    obtain ⟨t, h1, _, _, _, h5⟩ := hv.ty (K := K)
    refine ⟨_, rfl, sov, .ty "tuple", .type t, .type "tuple", _, rfl, .ty "tuple", h1, h5, _, rfl, ?_⟩
    cases et : isTup H sov with
    | false =>
      refine iteF ⟨false, _, rfl, fun z => (nomatch z), fun _ => k2 ⟨e, fun ⟨a, k, nm, e1, e2⟩ => ?_⟩⟩
      subst e1
      simp only [isTup, e2] at et
      cases et
    | true =>
      obtain ⟨a, xs, rfl, ha⟩ : ∃ a xs, sov = .ref a ∧ H a = some (.tup xs) := by
        cases hv with
        | tup z => exact ⟨_, _, rfl, z⟩
        | lst z => simp only [isTup, z] at et; cases et
        | dK z => simp only [isTup, z] at et; cases et
        | non => cases et
        | bl _ => cases et
        | int _ => cases et
        | str _ => cases et
      refine iteT ⟨_, rfl, a, xs, rfl, .inr (SqT.of ha), rfl, ?_⟩
      refine ⟨_, _, rfl, fun z => ?_, fun z => k2 ⟨e, fun ⟨a', k, nm, e1, e2⟩ => ?_⟩⟩
      · have l2 : xs.length = 2 := by
          have := V.int.inj (of_decide_eq_true z)
          omega
        obtain ⟨kd, nm, rfl⟩ : ∃ kd nm, xs = [kd, nm] := by
          match xs, l2 with
          | [kd, nm], _ => exact ⟨kd, nm, rfl⟩
        obtain ⟨hkd, hnm, k4, k5, k6⟩ := k3 a kd nm rfl ha
        refine ⟨_, rfl, a, _, rfl, SqT.of ha, rfl, _, _, rfl, _, _, rfl, rfl, ?_⟩
        refine ⟨_, rfl, (by show 2 ≤ sizeLine; decide), fun q hq => ?_⟩
        have s1 := Same.new (o := .tup FO) hq
        refine ⟨kd, q, FO, rfl, hkd.same s1, SqT.of upd_same, rfl, isW FO kd, _, rfl, fun z => ?_, fun z => (k4 z).same s1⟩
        obtain ⟨kn, rfl⟩ : ∃ kn, kd = V.str kn := by
          cases kd <;> first | exact ⟨_, rfl⟩ | (cases z; done)
        refine ⟨_, rfl, rfl, _, rfl, iteD (fun e1 => ?_) (fun e1 => ?_)⟩
        · obtain ⟨k7, k8⟩ := k5 e1
          exact ⟨_, rfl, _, rfl, x, wh, S, τ, cnt, nm, rfl, hS.same s1, hnm.same s1, fun n en hn v => k7 n en hn _ s1, fun z => (k8 z).same s1⟩
        · have e2 : V.str kn = .str "object" := by
            have : inV (.str kn) FO = true := by
              have := z
              unfold isW at this
              exact this
            rcases inW_two this with z | z
            · exact absurd z e1
            · exact z
          obtain ⟨k7, k8⟩ := k6 e2
          obtain ⟨okvs, fo, ho, _⟩ := hS.obs
          have S1 := hS.same s1
          refine ⟨_, rfl, _, rfl, ?_⟩
          cases sh with
          | false => exact iteF ⟨false, _, rfl, fun z => (nomatch z), fun _ => (k8 fun z => by cases z.1).same s1⟩
          | true =>
            refine iteT ⟨_, rfl, _, rfl, x, _, _, _, _, rfl, S1.hx, cl, a6, rfl, nm, 1, S.o, rfl, hnm.same s1, _, rfl, ?_⟩
            cases ei : inR 1 S.o nm with
            | false =>
              refine iteF ⟨false, _, rfl, fun z => (nomatch z), fun _ => (k8 fun z => ?_).same s1⟩
              obtain ⟨_, j, rfl, i, hc⟩ := z
              have := hS.cntPos hc
              rw [inR_of this.1 this.2] at ei
              cases ei
            | true =>
              obtain ⟨j, rfl, _⟩ := inR_int ei
              refine iteT ⟨_, rfl, _, rfl, x, _, _, _, _, rfl, S1.hx, cl, a8, rfl, wh.ob, _, rfl, DGet.k (k := Sum.inl j) (s1 _ _ ho), ?_⟩
              rcases hS.obv ho j with z | ⟨u, z⟩
              · rw [z]
                refine ⟨false, _, rfl, fun z => (nomatch z), fun _ => (k8 fun y => ?_).same s1⟩
                obtain ⟨_, j', ej, i, hc⟩ := y
                cases ej
                exact hc (hS.noUsr ho z i)
              · rw [z]
                exact ⟨true, _, rfl, fun _ => k7 j rfl rfl (hS.usr ho z).2.2.1 _ s1, fun z => by cases z⟩
      · cases e1
        rw [ha] at e2
        cases e2
        exact of_decide_eq_false z rfl
end
end My
set_option Elab.async false
set_option linter.all false
set_option maxRecDepth 100000
set_option maxHeartbeats 4000000
namespace My
open PySem L2
local macro_rules | `(tactic| walk_at "ds") => `(tactic| dsimp only [tSeq, tIfS, tTest, tB, tAnd, tOr, tNot, tAndV, tOrV, tNotV, tIf, tIsN, tNotN, tOp, tUn, tChain, rI, rI0, rU, tC, tCB, tCons, tNil, tAsg, gName, gSub, tRet, tRetN, tNext, tDrop, tLst, tTup, rIxL, rIxT, rSetL, tVar, tFld, tCall, tDGet, tDIn, tDNotIn, tNever, L2.start, List.map, List.replicate, List.length, List.append, List.cons_append, List.nil_append, List.set, Nat.sub])
local macro_rules | `(tactic| walk_at "hp") => `(tactic| first | assumption | exact upd_same | (refine Eq.trans (upd_ne (by first | assumption | (apply Ne.symm; assumption))) ?_; walk_at "hp"))
local macro_rules | `(tactic| walk_at "sd") => `(tactic| first
  | (show (_ : Int) ≠ 0; omega)
  | (refine (show CDivN _ _ from ⟨?_, ?_⟩) <;> omega)
  | (show CPow _ _; refine ⟨by omega, by omega, by omega⟩)
  | (show CMul _ _; exact Or.inl ⟨by omega, by omega⟩)
  | (show CMul _ _; exact Or.inr ⟨by omega, by omega⟩))
local macro_rules | `(tactic| walk_at "st") => `(tactic| first
  | refine ⟨_, rfl, ?_⟩
  | refine ⟨_, _, rfl, rfl, (by walk_at "sd"), ?_⟩
  | refine ⟨_, _, rfl, rfl, ?_⟩
  | refine ⟨_, _, _, _, rfl, rfl, SqL.of (by walk_at "hp"), rfl, ?_⟩
  | refine ⟨_, _, _, _, rfl, rfl, (by walk_at "hp"), rfl, ?_⟩
  | refine .inl ⟨_, rfl, ?_⟩
  | refine ⟨_, _, _, _, _, rfl, (by walk_at "hp"), (by assumption), (by assumption), rfl, ?_⟩
  | refine ⟨_, _, rfl, .inl (SqL.of (by walk_at "hp")), ?_⟩)
local macro_rules | `(tactic| walk_at "go") => `(tactic| repeat (first | walk_at "st" | (walk_at "ds"; walk_at "st")))
local macro_rules | `(tactic| walk_at "ni") => `(tactic| dsimp (config := { proj := false }) only [tNil, List.cons_append, List.nil_append])
section
variable {P : Program} {w : World} {K : PySem.W.Frag} {mg : Str → Option Value} {base : Heap} {A : Adr}
def spReq (A : Adr) : Sp := fun vs H Q E => ∃ (x : Addr) (wh : Wh) (S : Sys) (τ : Tm) (cnt : Int → Int → Nat) (v w : V), vs = [.ref x, v, w] ∧ Sa A H x wh S τ cnt ∧ Q .non H
theorem ok_require_charge (G : Txt K mg A) : FnOk P w K mg base (L2.CX P w) 1 A.a_require_charge A.fd_require_charge p_require_charge (spReq A) := by
  refine G.f_require_charge.okX sc_require_charge (fun vs H Q E h => ?_) (fun cdv A' outer s H vs Q E hr h => ?_)
  · obtain ⟨x, wh, S, τ, cnt, v, w, rfl, _⟩ := h
    rfl
  · obtain ⟨x, wh, S, τ, cnt, v, w, rfl, hS, k⟩ := h
    obtain ⟨cl, a3, a4, a5, a6, a7, a8, a9, a10⟩ := G.sysN
    refine ⟨_, (pss_one (ps_if (pt_val (pe_fld (pv 0) rfl)) (pss_one ps_never) pss_nil)), ?_⟩
    exact ⟨_, rfl, x, _, _, _, _, rfl, hS.hx, cl, a3, rfl, _, rfl, iteF k⟩
def spNew (A : Adr) : Sp := fun vs H Q _ => ∃ (f c : Int) (p : Addr) (r : Str) (sh : Bool) (sv : V) (s : Src) (i0 : Int) (fa : Addr), vs = [.int f, .int c, .ref p] ∧ PgAt A.c_Page H p (.str r) (.bl sh) sv (.int i0) (.ref fa) .non ∧ srcR H sv s ∧ H fa = some (.tup []) ∧
  0 ≤ c ∧ c ≤ 512 ∧ (∀ k : Int, 0 ≤ k → k < c → WfP (newPg r sh s i0 k)) ∧
  ∀ q ls H', Same H H' → H q = none → H' q = some (.dK ls) → LsR A.c_Page H' ls (newCh f c.toNat fun k => newPg r sh s i0 (k : Int)) → Q (.ref q) H'
theorem ok_new_pages (G : Txt K mg A) : FnOk P w K mg base CX0 3 A.a_new_pages A.fd_new_pages p_new_pages (spNew A) := by
  refine G.f_new_pages.ok sc_new_pages (fun vs H Q E h => ?_) (fun cdv A' outer s H vs Q E hr h => ?_)
  · obtain ⟨f, c, p, r, sh, sv, s, i0, fa, rfl, _⟩ := h
    rfl
  · obtain ⟨f, c, p, r, sh, sv, s, i0, fa, rfl, ⟨dx, hp⟩, hs, hfa, c0, c1, wf, k⟩ := h
    refine ⟨_, (pss_cons (ps_set (i := 3) sc_new_pages.nd rfl (Or.inl rfl) pe_dnewK)
  (pss_cons (ps_for PassesOwn.never rfl (pi_range1 rfl G.b_range (pa_cons (pv 1) pa_nil)) (pg_name (i := 4) sc_new_pages.nd rfl (Or.inl rfl)) (pss_cons (ps_set (i := 5) sc_new_pages.nd rfl (Or.inl rfl) (pe_ifExp (pt_cmpR op_isN (pe_fld (pv 2) rfl) pe_non (nomark _)) pe_non (pe_op op_add (pe_fld (pv 2) rfl) (pv 4))))
  (pss_one (ps_dput (hu_of hr) (pv 3) (pe_op op_add (pv 0) (pv 4)) (pe_make G.mk_Page (ok_Page_init G) (hr.mono (by decide)) rfl G.g_Page G.bi_Page_init .nil pass0 (pa_cons (pe_fld (pv 2) rfl) (pa_cons (pe_fld (pv 2) rfl) (pa_cons (pe_fld (pv 2) rfl) (pa_cons (pv 5) (pa_cons (pe_fld (pv 2) rfl) (pa_cons (pe_fld (pv 2) rfl) (pa_cons (pe_fld (pv 2) rfl) pa_nil)))))))) rfl))))
  (pss_one (ps_ret (pv 3))))), ?_⟩
    intro q hq
    refine ⟨_, rfl, c, rfl, by omega, by omega, for_range (lo := 0) (n := c.toNat) (fun i σ H' => (∃ c4 c5, σ = [some (.int f), some (.int c), some (.ref p), some (.ref q), c4, c5]) ∧ Same H H' ∧
        ∃ ls, H' q = some (.dK ls) ∧ LsR A.c_Page H' ls (newCh f i fun k => newPg r sh s i0 (k : Int)))
      ⟨⟨_, _, rfl⟩, Same.new hq, [], upd_same, True.intro⟩ ?_ ?_⟩
    · rintro i σ H1 hi ⟨⟨c4, c5, rfl⟩, s1, ls, l1, rel⟩
      have ei : (0 : Int) + (i : Nat) = (i : Int) := Int.zero_add _
      rw [ei]
      have hp1 := s1 _ _ hp
      have len : ls.length ≤ 512 := by
        have := rel.length
        unfold newCh at this
        rw [List.length_map, List.length_range] at this
        omega
      -- the index, whether there is a source or not
      have hs1 := hs.keep (ImmK.same s1)
      have esv : decide (sv = .non) = decide (s = .non) := by
        cases s with
        | non => cases hs; rfl
        | file n => obtain ⟨a, rfl, _⟩ := hs; rfl
        | obj j => obtain ⟨a, rfl, _⟩ := hs; rfl
      refine tIf_val (v := ixV (newPg r sh s i0 (i : Int)).ix) (b := decide (sv = .non)) (fun Q' q' => ⟨_, rfl, p, _, _, _, _, rfl, hp1, G.cl_Page, G.n_Page_source, rfl, rfl, _, rfl, q'⟩) (fun e Q' q' => ?_) (fun e Q' q' => ?_) ?_
      · rw [esv] at e
        have e' := of_decide_eq_true e
        rw [show (newPg r sh s i0 (i : Int)).ix = none from if_pos e'] at q'
        exact q'
      · rw [esv] at e
        have e' := of_decide_eq_false e
        rw [show (newPg r sh s i0 (i : Int)).ix = some (i0 + i) from if_neg e'] at q'
        exact ⟨_, rfl, p, _, _, _, _, rfl, hp1, G.cl_Page, G.n_Page_index, rfl, _, rfl, _, _, rfl, rfl, q'⟩
      dsimp only [gName, List.set]
      refine ⟨_, rfl, p, _, _, _, _, rfl, hp1, G.cl_Page, G.n_Page_rights, rfl, _, rfl, p, _, _, _, _, rfl, hp1, G.cl_Page, G.n_Page_shared, rfl, _, rfl, p, _, _, _, _, rfl, hp1, G.cl_Page, G.n_Page_source, rfl, _, rfl,
        _, rfl, p, _, _, _, _, rfl, hp1, G.cl_Page, G.n_Page_flags, rfl, _, rfl, p, _, _, _, _, rfl, hp1, G.cl_Page, G.n_Page_held, rfl, _, rfl, p, _, _, _, _, rfl, hp1, G.cl_Page, G.n_Page_stamp, rfl, ?_⟩
      intro y dy hy hdy ne
      refine ⟨y, dy, _, _, _, _, _, _, _, rfl, upd_same, fun H2 b2 pg => ⟨rfl, ?_⟩⟩
      have s2 : Same H1 H2 := fun b o ho => by
        refine b2 b o (ne_of_none ho hy) ?_
        rw [upd_ne (ne_of_none ho hy), upd_ne (ne_of_none ho hdy)]
        exact ho
      have s3 := s1.trans s2
      have rel2 := rel.keep (ImmK.same s2)
      have vn : valV ls (Sum.inl (f + (i : Int))) = none := rel.val_none fun z hz e => by
        obtain ⟨k', hk', rfl⟩ := newCh_mem hz
        simp only at e
        omega
      refine ⟨_, rfl, _, rfl, _, rfl, _, _, rfl, rfl, q, _, rfl, DPut.k (k := Sum.inl (f + (i : Int))) (s2 _ _ l1) (Nat.lt_of_le_of_lt len (by decide)), ?_⟩
      have im : ImmK H2 (upd H2 q (.dK (putK ls (Sum.inl (f + (i : Int))) (.ref y)))) := ImmK.upd (s2 _ _ l1) rfl
      refine ⟨⟨_, _, rfl⟩, fun b o ho => by rw [upd_ne (ne_of_none ho hq)]; exact s3 _ _ ho, _, upd_same, ?_⟩
      rw [putK_new _ vn, newCh_succ]
      rw [putK_new _ vn] at im
      have pg2 : PgR A.c_Page H2 y (newPg r sh s i0 (i : Int)) := by
        obtain ⟨dz, ez⟩ := pg
        exact ⟨dz, _, fa, ez, hs.keep (ImmK.same s3), s3 _ _ hfa⟩
      exact LsR.snoc (kv := (Sum.inl (f + (i : Int)), V.ref y)) (q := (f + (i : Int), some (newPg r sh s i0 (i : Int)))) rfl (show PgV _ _ (.ref y) (some (newPg r sh s i0 (i : Int))) from ⟨wf i (by omega) (by omega), y, rfl, pg2.keep im⟩) (rel2.keep im)
    · rintro σ H1 ⟨⟨c4, c5, rfl⟩, s1, ls, l1, rel⟩
      exact ⟨_, rfl, k q ls H1 s1 hq l1 rel⟩
def mpd (T : Tb) : Int → Bool := fun k => (T k).isSome
def spMap (A : Adr) : Sp := fun vs H Q E => ∃ (x : Addr) (wh : Wh) (S : Sys) (τ : Tm) (who cv rv shv sov iv av : V), vs = [.ref x, who, cv, rv, shv, sov, iv, av] ∧ Sr A H x wh S τ ∧ (AnyV H who ∧ AnyV H cv ∧ AnyV H rv ∧ AnyV H shv ∧ AnyV H sov ∧ AnyV H iv ∧ AnyV H av) ∧
  ((∀ i, who = .int i → S.tabs i = none) → Rz A.c_NoProcess "process" who H E) ∧ ∀ i T, who = .int i → S.tabs i = some T →
  (inR 1 512 cv = false → Rz A.c_NoPages "part" (.str "count") H E) ∧ ∀ c, cv = .int c → 1 ≤ c → c ≤ 512 →
  (isW RTS rv = false → Rz A.c_NoPages "part" (.str "rights") H E) ∧ ∀ r, rv = .str r → isW RTS (.str r) = true →
  (isB shv = false → Rz A.c_NoPages "part" (.str "shared") H E) ∧ ∀ sh, shv = .bl sh →
  SrcC A.c_NoPages A.c_NoFile H S.fls (cntS S) sov sh E fun s =>
    (inR 0 (if s = .non then 0 else 512 - c) iv = false → Rz A.c_NoPages "part" (.str "index") H E) ∧ ∀ ix, iv = .int ix → 0 ≤ ix → (s = .non → ix = 0) → (s ≠ .non → ix ≤ 512 - c) →
    (inR 0 (512 - c) (placeV (mpd T) c av) = false → Rz A.c_NoPages "part" (.str "at") H E) ∧ ∀ f, placeV (mpd T) c av = .int f → 0 ≤ f → f ≤ 512 - c →
    (sh = true → s = .non → S.o < 1000) ∧ ∀ H' τ', Go τ H τ' H' → Sr A H' x wh (mapS S i T f c r sh s ix) τ' → Q (.int f) H'
theorem ok_map_pages (G : Txt K mg A) : FnOk P w K mg base (L2.CX P w) 5 A.a_map_pages A.fd_map_pages p_map_pages (spMap A) := by
  refine G.f_map_pages.ok sc_map_pages (fun vs H Q E h => ?_) (fun cdv A' outer s H vs Q E hr h => ?_)
  · obtain ⟨x, wh, S, τ, who, cv, rv, shv, sov, iv, av, rfl, _⟩ := h
    rfl
  · obtain ⟨x, wh, S, τ, who, cv, rv, shv, sov, iv, av, rfl, hS, ⟨h1, h2, h3, h4, h5, h6, h7⟩, k1, k2⟩ := h
    obtain ⟨cl, a3, a4, a5, a6, a7, a8, a9, a10⟩ := G.sysN
    refine ⟨_, (pss_cons (ps_set (i := 8) sc_map_pages.nd rfl (Or.inl rfl) (pe_call (ok_table_of G) (hr.mono (by decide)) rfl G.g_table_of G.k_table_of G.bi_table_of .nil (passes_call (takes_of rfl rfl rfl rfl) (fun _ _ _ _ z => z)) (pa_cons (pv 0) (pa_cons (pv 1) pa_nil))))
  (pss_cons (ps_expr (pe_call (ok_require G) (hr.mono (by decide)) rfl G.g_require G.k_require G.bi_require .nil (passes_call (takes_of rfl rfl rfl rfl) (fun _ _ _ _ z => z)) (pa_cons (pe_call (ok_is_integer G) (hr.mono (by decide)) rfl G.g_is_integer G.k_is_integer G.bi_is_integer .nil pass0 (pa_cons (pv 2) (pa_cons pe_int (pa_cons (pe_glob (v := .int 512) rfl G.g_PAGES ⟨_, rfl⟩) pa_nil)))) (pa_cons pe_str pa_nil))))
  (pss_cons (ps_expr (pe_call (ok_require G) (hr.mono (by decide)) rfl G.g_require G.k_require G.bi_require .nil (passes_call (takes_of rfl rfl rfl rfl) (fun _ _ _ _ z => z)) (pa_cons (pe_call (ok_is_word G) (hr.mono (by decide)) rfl G.g_is_word G.k_is_word G.bi_is_word .nil pass0 (pa_cons (pv 3) (pa_cons (pe_glob (v := .ref A.o_RIGHTS) rfl G.g_RIGHTS rfl) pa_nil))) (pa_cons pe_str pa_nil))))
  (pss_cons (ps_expr (pe_call (ok_require G) (hr.mono (by decide)) rfl G.g_require G.k_require G.bi_require .nil (passes_call (takes_of rfl rfl rfl rfl) (fun _ _ _ _ z => z)) (pa_cons (pe_callB call_isi (by rfl) G.b_isinstance (by decide +kernel) (pa_cons (pv 4) (pa_cons (pe_bltn (v := .ty "bool") (u := .type "bool") (by rfl) G.b_bool (by decide +kernel) rfl) pa_nil))) (pa_cons pe_str pa_nil))))
  (pss_cons (ps_expr (pe_call (ok_require_source G) (hr.mono (by decide)) rfl G.g_require_source G.k_require_source G.bi_require_source .nil (passes_call (takes_of rfl rfl rfl rfl) (fun _ _ _ _ z => z)) (pa_cons (pv 0) (pa_cons (pv 5) (pa_cons (pv 4) pa_nil)))))
  (pss_cons (ps_expr (pe_call (ok_require G) (hr.mono (by decide)) rfl G.g_require G.k_require G.bi_require .nil (passes_call (takes_of rfl rfl rfl rfl) (fun _ _ _ _ z => z)) (pa_cons (pe_call (ok_is_integer G) (hr.mono (by decide)) rfl G.g_is_integer G.k_is_integer G.bi_is_integer .nil pass0 (pa_cons (pv 6) (pa_cons pe_int (pa_cons (pe_ifExp (pt_cmpR op_isN (pv 5) pe_non (nomark _)) pe_int (pe_op op_sub (pe_glob (v := .int 512) rfl G.g_PAGES ⟨_, rfl⟩) (pv 2))) pa_nil)))) (pa_cons pe_str pa_nil))))
  (pss_cons (ps_set (i := 9) sc_map_pages.nd rfl (Or.inl rfl) (pe_call (ok_place_for G) (hr.mono (by decide)) rfl G.g_place_for G.k_place_for G.bi_place_for .nil (passes_call (takes_of rfl rfl rfl rfl) (fun _ _ _ _ z => z)) (pa_cons (pv 8) (pa_cons (pv 2) (pa_cons (pv 7) pa_nil)))))
  (pss_cons (ps_set (i := 10) sc_map_pages.nd rfl (Or.inl rfl) (pe_and (pv 4) (pe_one (pe_cmp (pc_isN (pv 5)) rfl))))
  (pss_cons (ps_set (i := 11) sc_map_pages.nd rfl (Or.inl rfl) (pe_ifExp (pt_val (pv 10)) (pe_tup (pa_cons pe_str (pa_cons (pe_op op_add (pe_fld (pv 0) rfl) pe_int) pa_nil))) (pv 5)))
  (pss_cons (ps_set (i := 12) sc_map_pages.nd rfl (Or.inl rfl) (pe_call (ok_new_pages G) (hr.mono (by decide)) rfl G.g_new_pages G.k_new_pages G.bi_new_pages .nil pass0 (pa_cons (pv 9) (pa_cons (pv 2) (pa_cons (pe_make G.mk_Page (ok_Page_init G) (hr.mono (by decide)) rfl G.g_Page G.bi_Page_init .nil pass0 (pa_cons (pv 3) (pa_cons (pv 4) (pa_cons (pv 11) (pa_cons (pv 6) (pa_cons (pe_tup pa_nil) (pa_cons pe_non (pa_cons (pe_call (ok_this_step G) (hr.mono (by decide)) rfl G.g_this_step G.k_this_step G.bi_this_step .nil pass0 (pa_cons (pv 0) pa_nil)) pa_nil)))))))) pa_nil)))))
  (pss_cons (ps_expr (pe_call (ok_require_charge G) (hr.mono (by decide)) rfl G.g_require_charge G.k_require_charge G.bi_require_charge .nil (passes_call (takes_of rfl rfl rfl rfl) (fun _ _ _ _ z => z)) (pa_cons (pv 0) (pa_cons (pe_disp (pps_cons (pv 1) (pe_star2 (pv 8) (pv 12)) pps_nil) (by rfl) (by rfl) (fun z => by cases z) (by decide)) (pa_cons pe_dnewK pa_nil)))))
  (pss_cons (ps_if (pt_val (pv 10)) (pss_one (ps_fldaug (pv 0) pe_int in_add)) pss_nil)
  (pss_cons (ps_expr (pe_call (ok_replace_pages G) (hr.mono (by decide)) rfl G.g_replace_pages G.k_replace_pages G.bi_replace_pages .nil pass0 (pa_cons (pv 0) (pa_cons (pv 1) (pa_cons (pv 12) pa_nil)))))
  (pss_cons (ps_expr (pe_call (ok_end_step G) (hr.mono (by decide)) rfl G.g_end_step G.k_end_step G.bi_end_step .nil pass0 (pa_cons (pv 0) pa_nil)))
  (pss_one (ps_ret (pv 9))))))))))))))))), ?_⟩
    refine ⟨_, rfl, _, rfl, x, wh, S, τ, _, who, rfl, hS, h1, fun i d e hd => ?_, k1⟩
    subst e
    obtain ⟨T, eT, _⟩ := hS.tab hd
    obtain ⟨bi, td, tkvs, tf, hdk, tdi, tpg⟩ := hS.tabE hd eT
    obtain ⟨k3, k4⟩ := k2 i T rfl eT
    -- count
    refine ⟨_, rfl, cv, 1, 512, rfl, h2, inR 1 512 cv, _, rfl, fun z => ?_, k3⟩
    obtain ⟨c, rfl, c0, c1⟩ := inR_int z
    obtain ⟨k5, k6⟩ := k4 c rfl c0 c1
    -- rights
    refine ⟨_, rfl, rv, A.o_RIGHTS, RTS, rfl, h3, rights_at G, by decide +kernel, isW RTS rv, _, rfl, fun z => ?_, k5⟩
    obtain ⟨r, rfl⟩ : ∃ r, rv = V.str r := by
      cases rv <;> first | exact ⟨_, rfl⟩ | (cases z; done)
    obtain ⟨k7, k8⟩ := k6 r rfl z
    have hrt := z
    -- shared
    obtain ⟨ty, q1, _, q3, _⟩ := h4.ty (K := K)
    refine ⟨_, rfl, shv, .ty "bool", .type ty, .type "bool", isB shv, rfl, .ty "bool", q1, q3, isB shv, _, rfl, fun z => ?_, k7⟩
    obtain ⟨sh, rfl⟩ : ∃ sh, shv = V.bl sh := by
      cases shv <;> first | exact ⟨_, rfl⟩ | (cases z; done)
    -- source
    refine ⟨_, rfl, _, rfl, _, rfl, x, wh, S, τ, _, sov, sh, rfl, hS, h5, SrcC.mono (k8 sh rfl) fun s hs hob hfn ks => ?_⟩
    clear k1 k2 k3 k4 k5 k6 k7 k8
    intro H1 s1
    obtain ⟨k9, k10⟩ := ks
    have esv : decide (sov = .non) = decide (s = .non) := by
      cases s with
      | non => cases hs; rfl
      | file n => obtain ⟨a, rfl, _⟩ := hs; rfl
      | obj j => obtain ⟨a, rfl, _⟩ := hs; rfl
    have S1 := hS.same s1
    -- index
    refine ⟨_, rfl, ?_⟩
    try dsimp only [gName, List.set]
    refine tIf_val (v := .int (if s = .non then 0 else 512 - c)) (b := decide (sov = .non)) (fun Q' q' => ⟨_, rfl, rfl, _, rfl, q'⟩) (fun e Q' q' => ?_) (fun e Q' q' => ?_) ?_
    · rw [esv] at e
      rw [if_pos (of_decide_eq_true e)] at q'
      exact q'
    · rw [esv] at e
      rw [if_neg (of_decide_eq_false e)] at q'
      exact ⟨_, rfl, _, _, rfl, rfl, q'⟩
    refine ⟨iv, 0, _, rfl, h6.same s1, inR 0 (if s = .non then 0 else 512 - c) iv, _, rfl, fun z => ?_, fun z => (k9 z).same s1⟩
    obtain ⟨ix, rfl, x0, x1⟩ := inR_int z
    obtain ⟨k11, k12⟩ := k10 ix rfl x0 (fun e => by rw [if_pos e] at x1; omega) (fun e => by rw [if_neg e] at x1; exact x1)
    -- first
    have hd1 := s1 _ _ hdk
    refine ⟨_, rfl, _, rfl, _, rfl, d, c, av, tkvs, mpd T, rfl, hd1, fun k => ?_, h7.same s1, fun zr H2 s2 => ?_, fun z => (k11 z).same s1⟩
    · rw [tdi.val]
      exact (tpg k).isSome
    obtain ⟨f, ef, f0, f1⟩ := inR_int zr
    obtain ⟨k13, k14⟩ := k12 f ef f0 f1
    rw [ef]
    clear k9 k10 k11 k12 zr z
    have s3 := s1.trans s2
    have S3 := hS.same s3
    have hs3 := hs.keep (ImmK.same s3)
    -- makes_object
    dsimp only [gName, List.set]
    refine tAndV_val (b := sh) (c := decide (sov = .non)) (fun Q' q' => ⟨_, rfl, q'⟩) (fun _ Q' q' => ⟨_, rfl, q'⟩) ?_
    rw [esv]
    -- shows
    generalize hmk : (sh && decide (s = .non)) = mk at *
    dsimp only [gName, List.set]
    refine tIf_ex (b := mk) (fun v H' => Same H2 H' ∧ srcR H' v (if mk = true then .obj (S.o + 1) else s)) (fun Q' q' => ⟨_, rfl, _, rfl, q'⟩) (fun e Q' q' => ?_) (fun e Q' q' => ?_) ?_
    · refine ⟨_, rfl, x, _, _, _, _, rfl, S3.hx, cl, a6, rfl, S.o, 1, rfl, rfl, (by show 2 ≤ sizeLine; decide), fun q hq => q' _ _ ⟨Same.new hq, ?_⟩⟩
      rw [if_pos e]
      exact ⟨q, rfl, upd_same⟩
    · exact ⟨_, rfl, q' _ _ ⟨Same.refl _, by rw [if_neg (by rw [e]; exact Bool.false_ne_true)]; exact hs3⟩⟩
    rintro showsV H4 ⟨s4, hsv⟩
    generalize hs' : (if mk = true then Src.obj (S.o + 1) else s) = s' at *
    have wfN : ∀ k : Int, 0 ≤ k → k < c → WfP (newPg r sh s' ix k) := fun k k0 k1 => by
      have e0 : mk = true → sh = true ∧ s = .non := fun e => by
        rw [e] at hmk
        rw [Bool.and_eq_true] at hmk
        exact ⟨hmk.1, of_decide_eq_true hmk.2⟩
      have e1 : s' = .non → s = .non ∧ mk = false := fun e => by
        cases em : mk with
        | true => rw [em, if_pos rfl] at hs'; rw [← hs'] at e; cases e
        | false => rw [em, if_neg Bool.false_ne_true] at hs'; exact ⟨hs'.trans e, rfl⟩
      refine ⟨fun z e => ?_, fun j e => ?_, fun e => ⟨ix + k, if_neg e, by omega, ?_⟩, fun e => if_pos e, okRts hrt, fun n e => ?_⟩
      · obtain ⟨e2, e3⟩ := e1 e
        have z' : sh = true := z
        rw [z', e2, e3] at hmk
        cases hmk
      · cases em : mk with
        | true => exact (e0 em).1
        | false =>
          rw [em, if_neg Bool.false_ne_true] at hs'
          exact (hob j (hs'.trans e)).1
      · by_cases e4 : s = .non
        · have : ix ≤ 0 := by rw [if_pos e4] at x1; exact x1
          omega
        · rw [if_neg e4] at x1
          omega
      · cases em : mk with
        | true =>
          rw [em, if_pos rfl] at hs'
          have : s' = .file n := e
          rw [← hs'] at this
          cases this
        | false =>
          rw [em, if_neg Bool.false_ne_true] at hs'
          exact hS.okName (hfn n (hs'.trans e))
    -- pages
    dsimp only [gName, List.set]
    refine ⟨_, rfl, _, rfl, _, rfl, _, rfl, _, rfl, _, rfl, Nat.zero_le _, fun q0 hq0 => ?_⟩
    have s5 := s4.trans (Same.new (o := .tup []) hq0)
    refine ⟨_, rfl, x, wh, S, τ, _, rfl, S3.same s5, ?_⟩
    intro y dy hy hdy ne
    refine ⟨y, dy, _, _, _, _, _, _, _, rfl, upd_same, fun H5 b5 pg => ⟨rfl, ?_⟩⟩
    have s6 := same_made hy hdy b5
    refine ⟨f, c, y, r, sh, showsV, s', ix, q0, rfl, pg, hsv.keep (ImmK.same ((Same.new hq0).trans s6)), s6 _ _ upd_same, by omega, by omega, wfN, fun q ls H6 s7 hq l6 rel => ?_⟩
    have s8 := (s3.trans s5).trans (s6.trans s7)
    have S8 := hS.same s8
    have hd8 := s8 _ _ hdk
    have nq : q ≠ d := (ne_of_none (((s3.trans s5).trans s6) _ _ hdk) hq).symm
    have tq : τ q = none := hS.fresh (Same.free ((s3.trans s5).trans s6) hq)
    have lt : tkvs.length ≤ 512 := tdi.len fun i' hi' => by
      have := (tpg i').low hi'
      omega
    have ll : ls.length ≤ 512 := by
      have := rel.length
      unfold newCh at this
      rw [List.length_map, List.length_range] at this
      omega
    -- the charge
    dsimp only [gName, List.set]
    refine ⟨_, rfl, fun u0 hu0 => ?_⟩
    have s80 := Same.new (o := .dK []) hu0
    have hd80 := s80 _ _ hd8
    have l60 := s80 _ _ l6
    have hu00 : (upd H6 u0 (.dK [])) u0 = some (.dK []) := upd_same
    generalize upd H6 u0 (.dK []) = H60 at *
    refine ⟨_, rfl, fun u hu => ?_⟩
    have nd : d ≠ u := ne_of_none hd80 hu
    have nqu : q ≠ u := ne_of_none l60 hu
    refine ⟨_, rfl, d, tkvs, rfl, nd, by rw [upd_ne nd]; exact hd80, upd_same, _, rfl, q, ls, rfl, nqu, by rw [upd_ne nqu, upd_ne nqu]; exact l60, upd_same, Nat.le_trans (by omega : tkvs.length + ls.length ≤ 10000) (by decide), ?_⟩
    rw [upd_upd, upd_upd]
    have n0u : u0 ≠ u := ne_of_none hu00 hu
    have s90 := Same.new (o := .dK (mergeK (mergeK [] tkvs) ls)) hu
    have nq0 : q ≠ u0 := ne_of_none l6 hu0
    have hu0H : H6 u0 = none := hu0
    refine ⟨s90 _ _ hu00, [(Sum.inl i, V.ref u)], rfl, (by show 1 ≤ 15; decide), fun e he => ?_⟩
    have s9 : Same H6 (upd (upd (upd H60 u (.dK (mergeK (mergeK [] tkvs) ls))) u0 (.dK (mergeK [] [(Sum.inl i, V.ref u)]))) e (.dK [])) := fun b o eb => by
      have b0 : b ≠ u0 := ne_of_none eb hu0H
      rw [upd_ne (ne_of_none (show (upd (upd H60 u (.dK (mergeK (mergeK [] tkvs) ls))) u0 (.dK (mergeK [] [(Sum.inl i, V.ref u)]))) b = some o by rw [upd_ne b0]; exact s90 _ _ (s80 _ _ eb)) he), upd_ne b0]
      exact s90 _ _ (s80 _ _ eb)
    refine ⟨x, wh, S, τ, _, _, _, rfl, S8.same s9, ?_⟩
    have S10 := S8.same s9
    have l10 := s9 _ _ l6
    have rel10 := rel.keep (ImmK.same s9)
    have s10 := s8.trans s9
    generalize hH7 : upd (upd (upd H60 u (.dK (mergeK (mergeK [] tkvs) ls))) u0 (.dK (mergeK [] [(Sum.inl i, V.ref u)]))) e (.dK []) = H7 at *
    clear hH7 he hu nd nqu s9 s7 hq l6 rel b5 s6 hy hdy ne s90 n0u hu00 l60 hd80 s80 hu0 hu0H nq0
    -- the number of objects
    have et := cntS_tabs (S := S) (S' := { S with o := if mk = true then S.o + 1 else S.o }) rfl
    dsimp only
    refine tIfS_ex (b := mk) (fun σ' H' => σ' = [some (V.ref x), some (.int i), some (.int c), some (.str r), some (.bl sh), some sov, some (.int ix), some av, some (.ref d), some (.int f), some (.bl mk), some showsV, some (.ref q)] ∧ Go τ H7 τ H' ∧ Sr A H' x wh { S with o := if mk = true then S.o + 1 else S.o } τ) (fun Q' q' => ⟨_, rfl, _, rfl, q'⟩) (fun e D' q' => ?_) (fun e D' q' => ?_) ?_
    · have e0 : sh = true ∧ s = .non := by
        rw [e] at hmk
        rw [Bool.and_eq_true] at hmk
        exact ⟨hmk.1, of_decide_eq_true hmk.2⟩
      have lt1000 := k13 e0.1 e0.2
      refine ⟨_, rfl, x, _, _, _, _, rfl, S10.hx, cl, a6, rfl, S.o, 1, rfl, rfl, _, _, S10.hx, (by show 18 < 1000; decide), q' _ _ ⟨rfl, Go.upd (by rw [hS.tx]; simp) S10.hx, ?_⟩⟩
      rw [if_pos e]
      have := S10.put (n' := S.n) (o' := S.o + 1) (by omega) (by omega)
      have et' := cntS_tabs (S := S) (S' := { S with o := S.o + 1 }) rfl
      show SyA _ _ _ _ _ _ _ _ (cntS { S with o := S.o + 1 })
      rw [← et']
      exact this
    · refine q' _ _ ⟨rfl, Go.refl _ _, ?_⟩
      rw [if_neg (by rw [e]; exact Bool.false_ne_true)]
      exact S10
    rintro _ H8 ⟨rfl, go8, S11⟩
    have tabs8 : ({ S with o := if mk = true then S.o + 1 else S.o } : Sys).tabs i = some T := eT
    have im8 : ImmK H7 H8 := S10.imm go8
    refine ⟨_, rfl, _, rfl, _, rfl, x, wh, _, τ, i, q, ls, _, T, rfl, S11, tabs8, go8.fr _ _ tq l10, tq, rel10.keep im8, newCh_nod _ _ _, fun z hz => ?_, fun z hz g eg j ej => ?_, fun H9 τ9 go9 S12 => ?_⟩
    · obtain ⟨k, hk, rfl⟩ := newCh_mem hz
      simp only
      omega
    · obtain ⟨k, hk, rfl⟩ := newCh_mem hz
      cases eg
      have ej' : s' = .obj j := ej
      cases em : mk with
      | true =>
        rw [em, if_pos rfl] at hs'
        rw [← hs'] at ej'
        cases ej'
        have := hS.bo
        simp only [if_pos]
        omega
      | false =>
        rw [em, if_neg Bool.false_ne_true] at hs'
        obtain ⟨_, i', hc⟩ := hob j (hs'.trans ej')
        have := hS.cntPos hc
        simp only [if_neg Bool.false_ne_true]
        omega
    · refine ⟨_, rfl, x, wh, _, τ9, rfl, S12, fun H10 τ10 go10 S13 => ⟨_, rfl, k14 H10 τ10 (((Go.same s10).trans go8).trans (go9.trans go10)) ?_⟩⟩
      have eT2 : appT T (newCh f c.toNat fun k => newPg r sh s' ix (k : Int)) = mapT T f c r sh s' ix := by
        rw [appT_new, Int.toNat_of_nonneg (by omega)]
      rw [eT2] at S13
      have eS : mapS S i T f c r sh s ix = { ({ S with o := if mk = true then S.o + 1 else S.o } : Sys).setTab i (some (mapT T f c r sh s' ix)) with n := S.n + 1 } := by
        unfold mapS
        simp only [hmk, hs']
      rw [eS]
      exact S13
end
end My
set_option Elab.async false
set_option linter.all false
set_option maxRecDepth 100000
set_option maxHeartbeats 4000000
namespace My
open PySem L2
local macro_rules | `(tactic| walk_at "ds") => `(tactic| dsimp only [tSeq, tIfS, tTest, tB, tAnd, tOr, tNot, tAndV, tOrV, tNotV, tIf, tIsN, tNotN, tOp, tUn, tChain, rI, rI0, rU, tC, tCB, tCons, tNil, tAsg, gName, gSub, tRet, tRetN, tNext, tDrop, tLst, tTup, rIxL, rIxT, rSetL, tVar, tFld, tCall, tDGet, tDIn, tDNotIn, tNever, L2.start, List.map, List.replicate, List.length, List.append, List.cons_append, List.nil_append, List.set, Nat.sub])
local macro_rules | `(tactic| walk_at "hp") => `(tactic| first | assumption | exact upd_same | (refine Eq.trans (upd_ne (by first | assumption | (apply Ne.symm; assumption))) ?_; walk_at "hp"))
local macro_rules | `(tactic| walk_at "sd") => `(tactic| first
  | (show (_ : Int) ≠ 0; omega)
  | (refine (show CDivN _ _ from ⟨?_, ?_⟩) <;> omega)
  | (show CPow _ _; refine ⟨by omega, by omega, by omega⟩)
  | (show CMul _ _; exact Or.inl ⟨by omega, by omega⟩)
  | (show CMul _ _; exact Or.inr ⟨by omega, by omega⟩))
local macro_rules | `(tactic| walk_at "st") => `(tactic| first
  | refine ⟨_, rfl, ?_⟩
  | refine ⟨_, _, rfl, rfl, (by walk_at "sd"), ?_⟩
  | refine ⟨_, _, rfl, rfl, ?_⟩
  | refine ⟨_, _, _, _, rfl, rfl, SqL.of (by walk_at "hp"), rfl, ?_⟩
  | refine ⟨_, _, _, _, rfl, rfl, (by walk_at "hp"), rfl, ?_⟩
  | refine .inl ⟨_, rfl, ?_⟩
  | refine ⟨_, _, _, _, _, rfl, (by walk_at "hp"), (by assumption), (by assumption), rfl, ?_⟩
  | refine ⟨_, _, rfl, .inl (SqL.of (by walk_at "hp")), ?_⟩)
local macro_rules | `(tactic| walk_at "go") => `(tactic| repeat (first | walk_at "st" | (walk_at "ds"; walk_at "st")))
local macro_rules | `(tactic| walk_at "ni") => `(tactic| dsimp (config := { proj := false }) only [tNil, List.cons_append, List.nil_append])
section
variable {P : Program} {w : World} {K : PySem.W.Frag} {mg : Str → Option Value} {base : Heap} {A : Adr}
def spUnmap (A : Adr) : Sp := fun vs H Q E => ∃ (x : Addr) (wh : Wh) (S : Sys) (τ : Tm) (who fv cv : V), vs = [.ref x, who, fv, cv] ∧ Sr A H x wh S τ ∧ (AnyV H who ∧ AnyV H fv ∧ AnyV H cv) ∧
  ((∀ i, who = .int i → S.tabs i = none) → Rz A.c_NoProcess "process" who H E) ∧ ∀ i T, who = .int i → S.tabs i = some T →
  (inR 0 511 fv = false → Rz A.c_NoPages "part" (.str "first") H E) ∧ ∀ f, fv = .int f → 0 ≤ f → f ≤ 511 →
  (inR 1 (512 - f) cv = false → Rz A.c_NoPages "part" (.str "count") H E) ∧ ∀ c, cv = .int c → 1 ≤ c → c ≤ 512 - f →
  ∀ H' τ', Go τ H τ' H' → Sr A H' x wh (unmS S i T f c) τ' → Q .non H'
theorem ok_unmap (G : Txt K mg A) : FnOk P w K mg base (L2.CX P w) 5 A.a_unmap A.fd_unmap p_unmap (spUnmap A) := by
  refine G.f_unmap.okX sc_unmap (fun vs H Q E h => ?_) (fun cdv A' outer s H vs Q E hr h => ?_)
  · obtain ⟨x, wh, S, τ, who, fv, cv, rfl, _⟩ := h
    rfl
  · obtain ⟨x, wh, S, τ, who, fv, cv, rfl, hS, ⟨h1, h2, h3⟩, k1, k2⟩ := h
    refine ⟨_, (pss_cons (ps_set (i := 4) sc_unmap.nd rfl (Or.inr rfl) (pe_call (ok_table_of G) (hr.mono (by decide)) rfl G.g_table_of G.k_table_of G.bi_table_of .nil (passes_call (takes_of rfl rfl rfl rfl) (fun _ _ _ _ z => z)) (pa_cons (pv 0) (pa_cons (pv 1) pa_nil))))
  (pss_cons (ps_set (i := 5) sc_unmap.nd rfl (Or.inl rfl) (pe_call (ok_numbers_of G) (hr.mono (by decide)) rfl G.g_numbers_of G.k_numbers_of G.bi_numbers_of .nil (passes_call (takes_of rfl rfl rfl rfl) (fun _ _ _ _ z => z)) (pa_cons (pv 2) (pa_cons (pv 3) pa_nil))))
  (pss_cons (ps_expr (pe_call (ok_replace_pages G) (hr.mono (by decide)) rfl G.g_replace_pages G.k_replace_pages G.bi_replace_pages .nil pass0 (pa_cons (pv 0) (pa_cons (pv 1) (pa_cons (pe_dc (own := [("number", 6)]) (g := gName 6) rfl sc_unmap.nd (pi_list (pv 5)) (blkOk_by (own := [("number", 6)]) (N := n_unmap) (sc := defScope s_unmap) (by decide +kernel)) (fun _ _ _ _ _ => pg_name (i := 6) sc_unmap.nd rfl (Or.inl rfl)) (fun _ _ _ _ _ => pts_one (pt_cmp (pc_din (hu_of hr) (pv 6) (pv 4)))) (fun _ _ _ _ _ => (pv 6)) (fun _ _ _ _ _ => pe_non)) pa_nil)))))
  (pss_one (ps_expr (pe_call (ok_end_step G) (hr.mono (by decide)) rfl G.g_end_step G.k_end_step G.bi_end_step .nil pass0 (pa_cons (pv 0) pa_nil))))))), ?_⟩
    refine ⟨_, rfl, _, rfl, x, wh, S, τ, _, who, rfl, hS, h1, fun i d e hd => ?_, k1⟩
    subst e
    obtain ⟨T, eT, _⟩ := hS.tab hd
    obtain ⟨bi, td, tkvs, tf, hdk, tdi, tpg⟩ := hS.tabE hd eT
    obtain ⟨k3, k4⟩ := k2 i T rfl eT
    refine ⟨_, rfl, _, rfl, fv, cv, rfl, h2, h3, k3, fun f ef f0 f1 => ?_⟩
    obtain ⟨k5, k6⟩ := k4 f ef f0 f1
    refine ⟨k5, fun c ec c0 c1 q H1 eH hq => ?_⟩
    have k7 := k6 c ec c0 c1
    clear k1 k2 k3 k4 k5 k6
    have hq1 : H1 q = some (.lst (rgV f (f + c))) := by rw [eH, upd_same]
    have s1 : Same H H1 := by rw [eH]; exact Same.new hq
    have hd1 := s1 _ _ hdk
    have ec' : ((c.toNat : Nat) : Int) = c := Int.toNat_of_nonneg (by omega)
    refine ⟨_, rfl, _, rfl, _, rfl, q, rfl, ⟨_, SqL.of hq1⟩, fun D hD => ?_⟩
    refine dc_walk (walk_list (K := K) (a := q) (xs := rgV f (f + c))) (fun j Z => Same H1 Z ∧ ∃ ls, Z D = some (.dK ls) ∧ LsR A.c_Page H1 ls (delCh T f j))
      ⟨Same.new hD, [], upd_same, True.intro⟩ (fun j Z _ z => SqL.of (z.1 _ _ hq1)) ?_ ?_
    · rintro j y Z _ hj ⟨sz, ls, z1, z2⟩ ⟨rfl, hy⟩
      have ey := rg_at hj hy
      subst ey
      refine ⟨rfl, ?_⟩
      refine ⟨_, rfl, _, rfl, _, _, rfl, DGet.k (k := Sum.inl (f + (j : Nat))) (sz _ _ hd1), _, rfl, ?_⟩
      rw [tdi.val, (tpg _).isSome]
      have ds := delCh_succ T f j
      refine iteB (fun e => ?_) (fun e => ?_)
      · rw [if_pos e] at ds
        have vn : valV ls (Sum.inl (f + (j : Nat))) = none := z2.val_none fun z hz e => by
          obtain ⟨k', hk', rfl, _⟩ := delCh_mem hz
          simp only at e
          omega
        have ll := z2.length
        have dl := delCh_length T f j
        rw [rg_len] at hj
        refine ⟨_, rfl, ls, Sum.inl (f + (j : Nat)), rfl, z1, Nat.lt_of_le_of_lt (by omega : ls.length ≤ 10000) (by decide), fun b o ho => ?_, _, upd_same, ?_⟩
        · rw [upd_ne (ne_of_none ho hD)]
          exact sz _ _ ho
        · rw [putK_new _ vn, ds]
          exact LsR.snoc (kv := (Sum.inl (f + (j : Int)), V.non)) (q := (f + (j : Int), none)) rfl rfl z2
      · rw [if_neg (by rw [e]; exact Bool.false_ne_true), List.append_nil] at ds
        exact ⟨sz, ls, z1, by rw [ds]; exact z2⟩
    · rintro Z ⟨sz, ls, z1, z2⟩
      rw [rg_len] at z2
      have s2 := s1.trans sz
      have tD : τ D = none := hS.fresh (Same.free s1 hD)
      refine ⟨x, wh, S, τ, i, D, ls, _, T, rfl, hS.same s2, eT, z1, tD, z2.keep (ImmK.same sz), delCh_nod _ _ _, fun z hz => ?_, fun z hz g eg => ?_, fun H2 τ2 go2 S2 => ?_⟩
      · obtain ⟨k, hk, rfl, _⟩ := delCh_mem hz
        simp only
        omega
      · obtain ⟨k, hk, rfl, _⟩ := delCh_mem hz
        cases eg
      · refine ⟨_, rfl, x, wh, _, τ2, rfl, S2, fun H3 τ3 go3 S3 => k7 H3 τ3 ((Go.same s2).trans (go2.trans go3)) ?_⟩
        rw [appT_del, ec'] at S3
        exact S3
end
end My
set_option Elab.async false
set_option linter.all false
set_option maxRecDepth 100000
set_option maxHeartbeats 4000000
namespace My
open PySem L2
local macro_rules | `(tactic| walk_at "ds") => `(tactic| dsimp only [tSeq, tIfS, tTest, tB, tAnd, tOr, tNot, tAndV, tOrV, tNotV, tIf, tIsN, tNotN, tOp, tUn, tChain, rI, rI0, rU, tC, tCB, tCons, tNil, tAsg, gName, gSub, tRet, tRetN, tNext, tDrop, tLst, tTup, rIxL, rIxT, rSetL, tVar, tFld, tCall, tDGet, tDIn, tDNotIn, tNever, L2.start, List.map, List.replicate, List.length, List.append, List.cons_append, List.nil_append, List.set, Nat.sub])
local macro_rules | `(tactic| walk_at "hp") => `(tactic| first | assumption | exact upd_same | (refine Eq.trans (upd_ne (by first | assumption | (apply Ne.symm; assumption))) ?_; walk_at "hp"))
local macro_rules | `(tactic| walk_at "sd") => `(tactic| first
  | (show (_ : Int) ≠ 0; omega)
  | (refine (show CDivN _ _ from ⟨?_, ?_⟩) <;> omega)
  | (show CPow _ _; refine ⟨by omega, by omega, by omega⟩)
  | (show CMul _ _; exact Or.inl ⟨by omega, by omega⟩)
  | (show CMul _ _; exact Or.inr ⟨by omega, by omega⟩))
local macro_rules | `(tactic| walk_at "st") => `(tactic| first
  | refine ⟨_, rfl, ?_⟩
  | refine ⟨_, _, rfl, rfl, (by walk_at "sd"), ?_⟩
  | refine ⟨_, _, rfl, rfl, ?_⟩
  | refine ⟨_, _, _, _, rfl, rfl, SqL.of (by walk_at "hp"), rfl, ?_⟩
  | refine ⟨_, _, _, _, rfl, rfl, (by walk_at "hp"), rfl, ?_⟩
  | refine .inl ⟨_, rfl, ?_⟩
  | refine ⟨_, _, _, _, _, rfl, (by walk_at "hp"), (by assumption), (by assumption), rfl, ?_⟩
  | refine ⟨_, _, rfl, .inl (SqL.of (by walk_at "hp")), ?_⟩)
local macro_rules | `(tactic| walk_at "go") => `(tactic| repeat (first | walk_at "st" | (walk_at "ds"; walk_at "st")))
local macro_rules | `(tactic| walk_at "ni") => `(tactic| dsimp (config := { proj := false }) only [tNil, List.cons_append, List.nil_append])
section
variable {P : Program} {w : World} {K : PySem.W.Frag} {mg : Str → Option Value} {base : Heap} {A : Adr}
def spAttr (A : Adr) : Sp := fun vs H Q _ => ∃ (p : Addr) (r s so i f h : V), vs = [.ref p] ∧ PgAt A.c_Page H p r s so i f h ∧ ∀ q, H q = none → Q (.ref q) (upd H q (.tup [r, s, so, i, f]))
theorem ok_attributes (G : Txt K mg A) : FnOk P w K mg base CX0 1 A.a_attributes A.fd_attributes p_attributes (spAttr A) := by
  refine G.f_attributes.ok sc_attributes (fun vs H Q E h => ?_) (fun cdv A' outer s H vs Q E hr h => ?_)
  · obtain ⟨p, r, s, so, i, f, h, rfl, _⟩ := h
    rfl
  · obtain ⟨p, r, s, so, i, f, h, rfl, ⟨dx, e⟩, k⟩ := h
    refine ⟨_, (pss_one (ps_ret (pe_tup (pa_cons (pe_fld (pv 0) rfl) (pa_cons (pe_fld (pv 0) rfl) (pa_cons (pe_fld (pv 0) rfl) (pa_cons (pe_fld (pv 0) rfl) (pa_cons (pe_fld (pv 0) rfl) pa_nil)))))))), ?_⟩
    exact ⟨_, rfl, p, _, _, _, _, rfl, e, G.cl_Page, G.n_Page_rights, rfl, _, rfl, p, _, _, _, _, rfl, e, G.cl_Page, G.n_Page_shared, rfl, _, rfl, p, _, _, _, _, rfl, e, G.cl_Page, G.n_Page_source, rfl,
      _, rfl, p, _, _, _, _, rfl, e, G.cl_Page, G.n_Page_index, rfl, _, rfl, p, _, _, _, _, rfl, e, G.cl_Page, G.n_Page_flags, rfl, (by show 5 ≤ sizeLine; decide), k⟩
def spCont (A : Adr) : Sp := fun vs H Q _ => ∃ (p1 p2 : Addr) (g1 g2 : Pg), vs = [.ref p1, .ref p2] ∧ PgR A.c_Page H p1 g1 ∧ PgR A.c_Page H p2 g2 ∧ WfP g1 ∧ WfP g2 ∧ ∀ H', Same H H' → Q (.bl (cont (some g1) (some g2))) H'
theorem ok_continues (G : Txt K mg A) : FnOk P w K mg base CX0 2 A.a_continues A.fd_continues p_continues (spCont A) := by
  refine G.f_continues.ok sc_continues (fun vs H Q E h => ?_) (fun cdv A' outer s H vs Q E hr h => ?_)
  · obtain ⟨p1, p2, g1, g2, rfl, _⟩ := h
    rfl
  · obtain ⟨p1, p2, g1, g2, rfl, ⟨dx, sv, fa, e, hs, hf⟩, h2, wf1, wf2, k⟩ := h
    refine ⟨_, (pss_cons (ps_set (i := 2) sc_continues.nd rfl (Or.inl rfl) (pe_ifExp (pt_cmpR op_isN (pe_fld (pv 0) rfl) pe_non (nomark _)) pe_non (pe_op op_add (pe_fld (pv 0) rfl) pe_int)))
  (pss_one (ps_ret (pe_cmpR (op_eqD (hu64 hr)) (pe_call (ok_attributes G) (hr.mono (by decide)) rfl G.g_attributes G.k_attributes G.bi_attributes .nil pass0 (pa_cons (pv 1) pa_nil)) (pe_tup (pa_cons (pe_fld (pv 0) rfl) (pa_cons (pe_fld (pv 0) rfl) (pa_cons (pe_fld (pv 0) rfl) (pa_cons (pv 2) (pa_cons (pe_fld (pv 0) rfl) pa_nil)))))) (nomark _))))), ?_⟩
    have esv : decide (sv = .non) = decide (g1.src = .non) := by
      cases es : g1.src with
      | non => rw [es] at hs; cases hs; rfl
      | file n => rw [es] at hs; obtain ⟨a, rfl, _⟩ := hs; rfl
      | obj j => rw [es] at hs; obtain ⟨a, rfl, _⟩ := hs; rfl
    refine tIf_val (v := ixV (nxt g1).ix) (b := decide (sv = .non)) (fun Q' q' => ⟨_, rfl, p1, _, _, _, _, rfl, e, G.cl_Page, G.n_Page_source, rfl, rfl, _, rfl, q'⟩) (fun z Q' q' => ?_) (fun z Q' q' => ?_) ?_
    · rw [esv] at z
      have ei : (nxt g1).ix = none := by show g1.ix.map _ = none; rw [wf1.no (of_decide_eq_true z)]; rfl
      rw [ei] at q'
      exact q'
    · rw [esv] at z
      obtain ⟨i, ei, _⟩ := wf1.ix (of_decide_eq_false z)
      have ei2 : (nxt g1).ix = some (i + 1) := by show g1.ix.map _ = _; rw [ei]; rfl
      rw [ei2] at q'
      rw [ei] at e
      exact ⟨_, rfl, p1, _, _, _, _, rfl, e, G.cl_Page, G.n_Page_index, rfl, _, _, rfl, rfl, q'⟩
    dsimp only [gName, List.set]
    obtain ⟨dx2, sv2, fa2, e2, hs2, hf2⟩ := h2
    refine ⟨_, rfl, p2, _, _, _, _, _, _, rfl, ⟨dx2, e2⟩, fun q hq => ?_⟩
    have s1 := Same.new (o := .tup [V.str g2.r, .bl g2.sh, sv2, ixV g2.ix, .ref fa2]) hq
    have e1 := s1 _ _ e
    refine ⟨_, rfl, p1, _, _, _, _, rfl, e1, G.cl_Page, G.n_Page_rights, rfl, _, rfl, p1, _, _, _, _, rfl, e1, G.cl_Page, G.n_Page_shared, rfl, _, rfl, p1, _, _, _, _, rfl, e1, G.cl_Page, G.n_Page_source, rfl,
      _, rfl, _, rfl, p1, _, _, _, _, rfl, e1, G.cl_Page, G.n_Page_flags, rfl, (by show 5 ≤ sizeLine; decide), fun q2 hq2 => ?_⟩
    have s2 := Same.new (o := .tup [V.str g1.r, .bl g1.sh, sv, ixV (nxt g1).ix, .ref fa]) hq2
    have im := ImmK.same (s1.trans s2)
    refine ⟨dPg g2, dPg (nxt g1), dpPg (s2 _ _ upd_same) (hs2.keep im) (im _ _ hf2 rfl), dpPg (g := nxt g1) upd_same (hs.keep im) (im _ _ hf rfl), shapedPg wf2.okR wf2.okN, shapedPg (g := nxt g1) wf1.okR wf1.okN, ?_⟩
    rw [dPg_eqv]
    exact k _ (s1.trans s2)
def spRegs (A : Adr) : Sp := fun vs H Q E => ∃ (x : Addr) (wh : Wh) (S : Sys) (τ : Tm) (cnt : Int → Int → Nat) (who : V), vs = [.ref x, who] ∧ Sa A H x wh S τ cnt ∧ AnyV H who ∧
  ((∀ i, who = .int i → S.tabs i = none) → Rz A.c_NoProcess "process" who H E) ∧ ∀ i T, who = .int i → S.tabs i = some T →
  ∀ q rows H', Same H H' → H q = none → H' q = some (.lst rows) → RowsR H' rows (regL T) → Q (.ref q) H'
theorem ok_regions (G : Txt K mg A) : FnOk P w K mg base (L2.CX P w) 4 A.a_regions A.fd_regions p_regions (spRegs A) := by
  refine G.f_regions.okX sc_regions (fun vs H Q E h => ?_) (fun cdv A' outer s H vs Q E hr h => ?_)
  · obtain ⟨x, wh, S, τ, cnt, who, rfl, _⟩ := h
    rfl
  · obtain ⟨x, wh, S, τ, cnt, who, rfl, hS, hv, k1, k2⟩ := h
    refine ⟨_, (pss_cons (ps_set (i := 2) sc_regions.nd rfl (Or.inr rfl) (pe_call (ok_table_of G) (hr.mono (by decide)) rfl G.g_table_of G.k_table_of G.bi_table_of .nil (passes_call (takes_of rfl rfl rfl rfl) (fun _ _ _ _ z => z)) (pa_cons (pv 0) (pa_cons (pv 1) pa_nil))))
  (pss_cons (ps_set (i := 3) sc_regions.nd rfl (Or.inl rfl) (pe_lst pa_nil))
  (pss_cons (ps_for (passes_of rfl) rfl (pi_list (pe_callB (call_sortedDL rfl) (by rfl) G.b_sorted (by decide +kernel) (pa_cons (pv 2) pa_nil))) (pg_name (i := 4) sc_regions.nd rfl (Or.inl rfl)) (pss_one (ps_if (PW.pt (pw_and (pt_cmp (pc_din (hu_of hr) (pe_op op_sub (pv 4) pe_int) (pv 2))) (pw_and1 (pt_val (pe_call (ok_continues G) (hr.mono (by decide)) rfl G.g_continues G.k_continues G.bi_continues .nil pass0 (pa_cons (pe_dget (hu_of hr) (pv 2) (pe_op op_sub (pv 4) pe_int) (fun _ _ => rfl)) (pa_cons (pe_dget (hu_of hr) (pv 2) (pv 4) (fun _ _ => rfl)) pa_nil))))))) (pss_one (ps_augS (pe_ix ix_list (pv 3) (pe_un un_neg pe_int) (fun _ _ => rfl)) pe_int get_list pe_int ip_add set_list)) (pss_one (ps_expr (pe_bm PySem.F.plainAttrs_list PySem.F.slot_list_append PySem.F.type_list_append mt_append (pv 3) (pa_cons (pe_lst (pa_cons (pv 4) (pa_cons pe_int pa_nil))) pa_nil)))))))
  (pss_one (ps_ret (pe_lc (own := [("first", 5), ("count", 6)]) (g := gUnl K 2 (gCons (gName 5) (gCons (gName 6) (gNil)))) (tt := tYes) rfl sc_regions.nd (pi_list (pv 3)) (blkOk_by (own := [("first", 5), ("count", 6)]) (N := n_regions) (sc := defScope s_regions) (by decide +kernel)) (fun _ _ _ _ _ => pg_unl rfl (pgs_cons (pg_name (i := 5) sc_regions.nd rfl (Or.inl rfl)) (pgs_cons (pg_name (i := 6) sc_regions.nd rfl (Or.inl rfl)) pgs_nil))) (fun _ _ _ _ _ => pts_nil) (fun _ _ _ _ _ => (pe_op (r := rCatT K) op_catT (pe_tup (pa_cons (pv 5) (pa_cons (pv 6) pa_nil))) (pe_call (ok_attributes G) (hr.mono (by decide)) rfl G.g_attributes G.k_attributes G.bi_attributes .nil pass0 (pa_cons (pe_dget (hu_of hr) (pv 2) (pv 5) (fun _ _ => rfl)) pa_nil)))))))))), ?_⟩
    refine ⟨_, rfl, _, rfl, x, wh, S, τ, cnt, who, rfl, hS, hv, fun i d e hd => ?_, k1⟩
    subst e
    obtain ⟨T, eT, _⟩ := hS.tab hd
    obtain ⟨bi, td, tkvs, tf, hdk, tdi, tpg⟩ := hS.tabE hd eT
    have k3 := k2 i T rfl eT
    clear k1 k2
    refine ⟨Nat.zero_le _, fun D hD => ?_⟩
    have s0 := Same.new (o := .lst []) hD
    refine ⟨_, rfl, d, tkvs, intsOf tkvs, rfl, .inl (s0 _ _ hdk), tdi.keys, fun ys q hp hsrt hq => ?_⟩
    have dom : ∀ i, (tf i).isSome = true → 0 ≤ i ∧ i < (512 : Nat) := fun i z => by
      have := (tpg i).low z
      omega
    have ey : ys = keysT T := by
      rw [sorted_is tdi dom hp hsrt]
      unfold keysT
      congr 1
      funext i
      exact (tpg i).isSome
    subst ey
    have nDq : D ≠ q := ne_of_none upd_same hq
    obtain ⟨_, hq0⟩ := upd_none hq
    have hq1 : (upd (upd H D (.lst [])) q (.lst ((keysT T).map V.int))) q = some (.lst ((keysT T).map V.int)) := upd_same
    have kl : (keysT T).length ≤ 512 := upTo_length _ _
    have nqd : q ≠ d := (ne_of_none (s0 _ _ hdk) hq).symm
    refine ⟨q, rfl, ⟨_, SqL.of hq1⟩, for_list (K := K) (a := q) (xs := (keysT T).map V.int) (fun j σ Z => (∃ c4 c5 c6, σ = [some (.ref x), some (.int i), some (.ref d), some (.ref D), c4, c5, c6]) ∧ Same H Z ∧ Z q = some (.lst ((keysT T).map V.int)) ∧
        ∃ ps : List Addr, Z D = some (.lst (ps.map V.ref)) ∧ ps.Nodup ∧ (∀ p ∈ ps, p ≠ D ∧ p ≠ q ∧ H p = none) ∧ PrR Z ps (regsK T ((keysT T).take j)) ∧ ps.length ≤ j)
      ⟨⟨_, _, _, rfl⟩, s0.trans (Same.new hq), hq1, [], by rw [upd_ne nDq, upd_same]; rfl, List.nodup_nil, fun p hp => (nomatch hp), True.intro, Nat.le_refl _⟩ (fun j σ Z _ z => SqL.of z.2.2.1) ?_ ?_⟩
    · rintro j y σ Z hy ⟨⟨c4, c5, c6, rfl⟩, sz, zq, ps, zD, nd, np, pr, pl⟩
      rw [List.getElem?_map] at hy
      obtain ⟨n, hn, rfl⟩ : ∃ n, (keysT T)[j]? = some n ∧ y = V.int n := by
        cases e : (keysT T)[j]? with
        | none => rw [e] at hy; cases hy
        | some n => rw [e] at hy; exact ⟨n, rfl, (Option.some.inj hy).symm⟩
      have hj : j < (keysT T).length := (List.getElem?_eq_some_iff.mp hn).1
      have hmem := upTo_mem.mp (List.mem_of_getElem? hn)
      have tk := take_succ hn
      have zd := sz _ _ hdk
      obtain ⟨g, eg⟩ : ∃ g, T n = some g := Option.isSome_iff_exists.mp hmem.2
      have rel := tpg n
      rw [eg] at rel
      obtain ⟨v, ev⟩ : ∃ v, tf n = some v := by
        cases ev : tf n with
        | none => rw [ev] at rel; exact rel.elim
        | some v => exact ⟨v, rfl⟩
      rw [ev] at rel
      obtain ⟨nb, wf, p', rfl, hp'⟩ := rel
      obtain ⟨v1, ev1⟩ : ∃ v1, tf (n - 1) = v1 := ⟨_, rfl⟩
      have rel1 := tpg (n - 1)
      rw [ev1] at rel1
      have next : ∀ {Y : Hp} {acc' : List (Int × Int)} {ps' : List Addr} {c4 c5 c6 : Option V}, Same H Y → Y q = some (.lst ((keysT T).map V.int)) → Y D = some (.lst (ps'.map V.ref)) → ps'.Nodup → (∀ p ∈ ps', p ≠ D ∧ p ≠ q ∧ H p = none) → stepR T (regsK T ((keysT T).take j)) n = acc' → PrR Y ps' acc' → ps'.length ≤ j + 1 →
          (∃ c4' c5' c6', [some (V.ref x), some (.int i), some (.ref d), some (.ref D), c4, c5, c6] = [some (.ref x), some (.int i), some (.ref d), some (.ref D), c4', c5', c6']) ∧ Same H Y ∧ Y q = some (.lst ((keysT T).map V.int)) ∧
          ∃ ps : List Addr, Y D = some (.lst (ps.map V.ref)) ∧ ps.Nodup ∧ (∀ p ∈ ps, p ≠ D ∧ p ≠ q ∧ H p = none) ∧ PrR Y ps (regsK T ((keysT T).take (j + 1))) ∧ ps.length ≤ j + 1 := fun a b c d e f g h => by
        refine ⟨⟨_, _, _, rfl⟩, a, b, _, c, d, e, ?_, h⟩
        rw [tk, regsK_snoc, f]
        exact g
      refine tIfS_s (b := cont (T (n - 1)) (T n)) (fun Q' q' => ?_) (fun c Y sy => ?_) (fun c Y sy => ?_)
      · refine ⟨_, rfl, _, _, rfl, rfl, _, rfl, d, _, rfl, DGet.k (k := Sum.inl (n - 1)) zd, _, rfl, ?_⟩
        rw [tdi.val, ev1]
        cases e1 : T (n - 1) with
        | none =>
          rw [e1] at rel1
          have : v1 = none := by
            cases v1 with
            | none => rfl
            | some _ => exact rel1.elim
          rw [this]
          rw [e1] at q'
          exact iteF (q' Z (Same.refl Z))
        | some g1 =>
          rw [e1] at rel1
          cases v1 with
          | none => exact rel1.elim
          | some w1 =>
            obtain ⟨_, wf1, p1, rfl, hp1⟩ := rel1
            refine iteT ⟨_, rfl, _, rfl, _, _, rfl, rfl, d, _, rfl, (by rw [← ev1, ← tdi.val]; exact DGet.k (k := Sum.inl (n - 1)) zd), _, rfl, _, rfl, d, _, rfl, (by rw [← ev, ← tdi.val]; exact DGet.k (k := Sum.inl n) zd), ?_⟩
            refine ⟨p1, p', g1, g, rfl, hp1.keep (ImmK.same sz), hp'.keep (ImmK.same sz), wf1, wf, fun H' s' => ⟨_, rfl, ?_⟩⟩
            rw [e1, eg] at q'
            exact q' H' s'
      · -- the region goes on
        have pm : n - 1 ∈ (keysT T).take j := by
          refine lt_take (upTo_lt _ _) hn (upTo_mem.mpr ?_) (by omega)
          cases e1 : T (n - 1) with
          | none => rw [e1] at c; cases c
          | some g1 =>
            rw [e1] at rel1
            cases v1 with
            | none => exact rel1.elim
            | some w1 => exact ⟨by have := rel1.1; omega, rfl⟩
        have ne := regsK_ne T (ks := (keysT T).take j) (fun z => by rw [z] at pm; cases pm)
        have psne : ps ≠ [] := fun z => by
          have := pr.length
          rw [z] at this
          exact ne (List.eq_nil_of_length_eq_zero this.symm)
        obtain ⟨ps', l, rfl⟩ : ∃ ps' l, ps = ps' ++ [l] := ⟨ps.dropLast, ps.getLast psne, (List.dropLast_concat_getLast psne).symm⟩
        obtain ⟨acc', ⟨a, m⟩, ea, pr', hl⟩ := pr.unsnoc
        have yD := sy _ _ zD
        have yl := sy _ _ hl
        obtain ⟨nlD, nlq, hl0⟩ := np l (by simp)
        rw [List.map_append, List.map_cons, List.map_nil] at yD
        refine ⟨_, rfl, 1, rfl, D, _, _, _, rfl, rfl, SqL.of yD, atI_last _ _, ?_⟩
        refine ⟨l, _, 1, _, rfl, rfl, SqL.of yl, by decide, rfl, ?_⟩
        refine ⟨m, 1, rfl, rfl, l, _, 1, 1, rfl, rfl, yl, rfl, ?_⟩
        have nd' := List.nodup_append.mp nd
        refine next (fun b o ho => ?_) ?_ ?_ nd np ?_ (PrR.snoc (p := l) (q := (a, m + 1)) upd_same (pr'.keep fun p hp o ho => ?_)) (by omega)
        · rw [upd_ne (ne_of_none ho hl0)]
          exact sy _ _ (sz _ _ ho)
        · rw [upd_ne (Ne.symm nlq)]
          exact sy _ _ zq
        · rw [upd_ne (Ne.symm nlD), List.map_append]
          exact yD
        · have el : (regsK T ((keysT T).take j)).getLast? = some (a, m) := by rw [ea]; exact List.getLast?_concat
          unfold stepR
          rw [el]
          simp only [c, if_true]
          rw [ea, List.dropLast_concat]
        · rw [upd_ne (nd'.2.2 p hp l (by simp))]
          exact sy _ _ ho
      · -- a new one
        have yD := sy _ _ zD
        refine ⟨_, rfl, .inl ⟨rfl, _, SqL.of yD⟩, _, rfl, (by show 2 ≤ sizeLine; decide), fun p hp => ?_⟩
        have nDp : D ≠ p := ne_of_none yD hp
        have nqp : q ≠ p := ne_of_none (sy _ _ zq) hp
        have hp0 : H p = none := Same.free (sz.trans sy) hp
        refine ⟨D, _, _, rfl, rfl, by rw [upd_ne nDp]; exact yD, Nat.lt_of_le_of_lt (by rw [List.length_map]; omega : (ps.map V.ref).length ≤ 10000) (by decide), ?_⟩
        have pin : ∀ p' ∈ ps, p' ≠ p := fun p' hp' e => by
          obtain ⟨jj, hjj⟩ := List.mem_iff_getElem?.mp hp'
          obtain ⟨_, _, h1⟩ := pr.get hjj
          have := sy _ _ h1
          rw [e, hp] at this
          cases this
        refine next (ps' := ps ++ [p]) (acc' := regsK T ((keysT T).take j) ++ [(n, 1)]) (fun b o ho => ?_) ?_ ?_ ?_ ?_ ?_ (PrR.snoc (p := p) (q := (n, 1)) ?_ (pr.keep fun p' hp' o ho => ?_)) (by rw [List.length_append, List.length_singleton]; omega)
        · rw [upd_ne (ne_of_none ho hD), upd_ne (ne_of_none ho hp0)]
          exact sy _ _ (sz _ _ ho)
        · rw [upd_ne (Ne.symm nDq), upd_ne nqp]
          exact sy _ _ zq
        · rw [upd_same, List.map_append]
          rfl
        · refine List.nodup_append.mpr ⟨nd, by simp, fun a ha b hb => ?_⟩
          rw [List.mem_singleton.mp hb]
          exact pin a ha
        · intro p' hp'
          rcases List.mem_append.mp hp' with z | z
          · exact np p' z
          · rw [List.mem_singleton.mp z]
            exact ⟨Ne.symm nDp, Ne.symm nqp, hp0⟩
        · unfold stepR
          split
          · simp only [c, if_false, Bool.false_eq_true]
          · rename_i e
            rw [List.getLast?_eq_none_iff.mp e]
            rfl
        · rw [upd_ne (Ne.symm nDp), upd_same]
        · rw [upd_ne (np p' hp').1, upd_ne (pin p' hp')]
          exact sy _ _ ho
    · rintro σ Z ⟨⟨c4, c5, c6, rfl⟩, sz, zq, ps, zD, nd, np, pr, pl⟩
      rw [List.length_map, List.take_length] at pr
      have st := regsK_start T (keysT T) fun n hn => (upTo_mem.mp hn).2
      have zd := sz _ _ hdk
      have pl2 : ps.length ≤ 512 := by
        rw [List.length_map] at pl
        omega
      refine ⟨_, rfl, D, rfl, ⟨_, SqL.of zD⟩, fun R hR => ?_⟩
      refine lc_it (walk_list (K := K) (a := D) (xs := ps.map V.ref)) (fun j Y => Same Z Y ∧ ∃ rows, Y R = some (.lst rows) ∧ RowsR Y rows (withP T ((regsI T).take j)))
        ⟨Same.new hR, [], upd_same, True.intro⟩ (fun j Y _ y => SqL.of (y.1 _ _ zD)) ?_ ?_
      · rintro j y Y0 Y hj ⟨sy, rows, y1, y2⟩ ⟨rfl, hy⟩
        rw [List.getElem?_map] at hy
        obtain ⟨l, hl, rfl⟩ : ∃ l, ps[j]? = some l ∧ y = V.ref l := by
          cases e : ps[j]? with
          | none => rw [e] at hy; cases hy
          | some n => rw [e] at hy; exact ⟨n, rfl, (Option.some.inj hy).symm⟩
        obtain ⟨⟨a, m⟩, ham, hlz⟩ := pr.get hl
        have tk : (regsI T).take (j + 1) = (regsI T).take j ++ [(a, m)] := take_succ ham
        obtain ⟨g, eg⟩ : ∃ g, T a = some g := Option.isSome_iff_exists.mp (st _ (List.mem_of_getElem? ham))
        have rel := tpg a
        rw [eg] at rel
        obtain ⟨v, ev⟩ : ∃ v, tf a = some v := by
          cases ev : tf a with
          | none => rw [ev] at rel; exact rel.elim
          | some v => exact ⟨v, rfl⟩
        rw [ev] at rel
        obtain ⟨nb, wf, p', rfl, hp'⟩ := rel
        refine ⟨l, _, rfl, SqL.of (sy _ _ hlz), rfl, _, _, rfl, _, _, rfl, rfl, rfl, ?_⟩
        dsimp only [tYes]
        refine iteT ⟨_, rfl, _, rfl, (by show 2 ≤ sizeLine; decide), fun t ht => ?_⟩
        have s1 := Same.new (o := .tup [V.int a, V.int m]) ht
        have im := ImmK.same ((sz.trans sy).trans s1)
        obtain ⟨dx, sv, fa, e1, e2, e3⟩ := hp'.keep im
        refine ⟨_, rfl, _, rfl, d, _, rfl, (by rw [← ev, ← tdi.val]; exact DGet.k (k := Sum.inl a) (s1 _ _ (sy _ _ zd))), p', _, _, _, _, _, _, rfl, ⟨dx, e1⟩, fun q2 hq2 => ?_⟩
        have s2 := Same.new (o := .tup [V.str g.r, .bl g.sh, sv, ixV g.ix, .ref fa]) hq2
        refine ⟨t, q2, _, _, rfl, rfl, SqT.of (s2 _ _ upd_same), SqT.of upd_same, by simp, by show 7 ≤ sizeLine; decide, fun z => (nomatch z), fun _ t3 ht3 => ?_⟩
        have s3 := Same.new (o := .tup ([V.int a, V.int m] ++ [V.str g.r, .bl g.sh, sv, ixV g.ix, .ref fa])) ht3
        have ss := (s1.trans s2).trans s3
        have rl := y2.length
        have wl := withP_length T ((regsI T).take j)
        have tl := List.length_take_le j (regsI T)
        have hj2 : j < ps.length := by rw [List.length_map] at hj; exact hj
        have nRl : ∀ {b : Addr} {o : HO}, Z b = some o → b ≠ R := fun e => ne_of_none e hR
        refine ⟨rows, ss _ _ y1, Nat.lt_of_le_of_lt (by omega : rows.length ≤ 10000) (by decide), fun b o ho => ?_, _, upd_same, ?_⟩
        · rw [upd_ne (nRl ho)]
          exact ss _ _ (sy _ _ ho)
        · rw [tk, withP_snoc T _ _ eg]
          have im2 := ImmK.upd (u := .lst (rows ++ [V.ref t3])) (ss _ _ y1) rfl
          refine RowsR.snoc (RowR.keep im2 ⟨t3, sv, fa, rfl, upd_same, (e2.keep (ImmK.same (s2.trans s3))), (s2.trans s3) _ _ e3⟩) ((y2.keep (ImmK.same ss)).keep im2)
      · rintro Y ⟨sy, rows, y1, y2⟩
        rw [List.length_map] at y2
        have : (regsI T).take ps.length = regsI T := by rw [pr.length]; exact List.take_length
        rw [this] at y2
        exact k3 R rows Y (sz.trans sy) (Same.free sz hR) y1 y2
end
end My
set_option Elab.async false
set_option linter.all false
set_option maxRecDepth 100000
set_option maxHeartbeats 4000000
namespace My
open PySem L2
local macro_rules | `(tactic| walk_at "ds") => `(tactic| dsimp only [tSeq, tIfS, tTest, tB, tAnd, tOr, tNot, tAndV, tOrV, tNotV, tIf, tIsN, tNotN, tOp, tUn, tChain, rI, rI0, rU, tC, tCB, tCons, tNil, tAsg, gName, gSub, tRet, tRetN, tNext, tDrop, tLst, tTup, rIxL, rIxT, rSetL, tVar, tFld, tCall, tDGet, tDIn, tDNotIn, tNever, L2.start, List.map, List.replicate, List.length, List.append, List.cons_append, List.nil_append, List.set, Nat.sub])
local macro_rules | `(tactic| walk_at "hp") => `(tactic| first | assumption | exact upd_same | (refine Eq.trans (upd_ne (by first | assumption | (apply Ne.symm; assumption))) ?_; walk_at "hp"))
local macro_rules | `(tactic| walk_at "sd") => `(tactic| first
  | (show (_ : Int) ≠ 0; omega)
  | (refine (show CDivN _ _ from ⟨?_, ?_⟩) <;> omega)
  | (show CPow _ _; refine ⟨by omega, by omega, by omega⟩)
  | (show CMul _ _; exact Or.inl ⟨by omega, by omega⟩)
  | (show CMul _ _; exact Or.inr ⟨by omega, by omega⟩))
local macro_rules | `(tactic| walk_at "st") => `(tactic| first
  | refine ⟨_, rfl, ?_⟩
  | refine ⟨_, _, rfl, rfl, (by walk_at "sd"), ?_⟩
  | refine ⟨_, _, rfl, rfl, ?_⟩
  | refine ⟨_, _, _, _, rfl, rfl, SqL.of (by walk_at "hp"), rfl, ?_⟩
  | refine ⟨_, _, _, _, rfl, rfl, (by walk_at "hp"), rfl, ?_⟩
  | refine .inl ⟨_, rfl, ?_⟩
  | refine ⟨_, _, _, _, _, rfl, (by walk_at "hp"), (by assumption), (by assumption), rfl, ?_⟩
  | refine ⟨_, _, rfl, .inl (SqL.of (by walk_at "hp")), ?_⟩)
local macro_rules | `(tactic| walk_at "go") => `(tactic| repeat (first | walk_at "st" | (walk_at "ds"; walk_at "st")))
local macro_rules | `(tactic| walk_at "ni") => `(tactic| dsimp (config := { proj := false }) only [tNil, List.cons_append, List.nil_append])
section
variable {P : Program} {w : World} {K : PySem.W.Frag} {mg : Str → Option Value} {base : Heap} {A : Adr}
/-- self.f = a new thing -/
theorem sf_dict {C x dx : Addr} {fs : List (Str × V)} {fs' : Addr → List (Str × V)} {H : Hp} {D : Ends} {σ : St} {f : Str} (cl : Cls K C) (na : NoAttr K C f) (h0 : σ[0]? = some (some (.ref x)))
    (hx : H x = some (.ins C dx fs)) (hl : fs.length < 1000) (he : ∀ q, putF f (.ref q) fs = fs' q) (k : ∀ q H', H q = none → But x H H' → H' q = some (.dK []) → H' x = some (.ins C dx (fs' q)) → D.nx σ H') : sFld K (tVar 0) tDNewK f D σ H := by
  intro q hq
  have nq : x ≠ q := ne_of_none hx hq
  refine ⟨_, h0, x, C, dx, fs, rfl, (by rw [upd_ne nq]; exact hx), cl, na, hl, k q _ hq (fun b o hb ho => ?_) ?_ (by rw [he, upd_same])⟩
  · rw [upd_ne hb, upd_ne (ne_of_none ho hq)]
    exact ho
  · rw [upd_ne (Ne.symm nq), upd_same]
theorem sf_dictT {C x dx : Addr} {fs : List (Str × V)} {fs' : Addr → List (Str × V)} {H : Hp} {D : Ends} {σ : St} {f : Str} (cl : Cls K C) (na : NoAttr K C f) (h0 : σ[0]? = some (some (.ref x)))
    (hx : H x = some (.ins C dx fs)) (hl : fs.length < 1000) (he : ∀ q, putF f (.ref q) fs = fs' q) (k : ∀ q H', H q = none → But x H H' → H' q = some (.dT []) → H' x = some (.ins C dx (fs' q)) → D.nx σ H') : sFld K (tVar 0) tDNewT f D σ H := by
  intro q hq
  have nq : x ≠ q := ne_of_none hx hq
  refine ⟨_, h0, x, C, dx, fs, rfl, (by rw [upd_ne nq]; exact hx), cl, na, hl, k q _ hq (fun b o hb ho => ?_) ?_ (by rw [he, upd_same])⟩
  · rw [upd_ne hb, upd_ne (ne_of_none ho hq)]
    exact ho
  · rw [upd_ne (Ne.symm nq), upd_same]
theorem sf_list {C x dx : Addr} {fs : List (Str × V)} {fs' : Addr → List (Str × V)} {H : Hp} {D : Ends} {σ : St} {f : Str} (cl : Cls K C) (na : NoAttr K C f) (h0 : σ[0]? = some (some (.ref x)))
    (hx : H x = some (.ins C dx fs)) (hl : fs.length < 1000) (he : ∀ q, putF f (.ref q) fs = fs' q) (k : ∀ q H', H q = none → But x H H' → H' q = some (.lst []) → H' x = some (.ins C dx (fs' q)) → D.nx σ H') : sFld K (tVar 0) (tLst tNil) f D σ H := by
  refine ⟨Nat.zero_le _, fun q hq => ?_⟩
  have nq : x ≠ q := ne_of_none hx hq
  refine ⟨_, h0, x, C, dx, fs, rfl, (by rw [upd_ne nq]; exact hx), cl, na, hl, k q _ hq (fun b o hb ho => ?_) ?_ (by rw [he, upd_same])⟩
  · rw [upd_ne hb, upd_ne (ne_of_none ho hq)]
    exact ho
  · rw [upd_ne (Ne.symm nq), upd_same]
theorem sf_list0 {C x dx : Addr} {fs : List (Str × V)} {fs' : Addr → List (Str × V)} {H : Hp} {D : Ends} {σ : St} {f : Str} (cl : Cls K C) (na : NoAttr K C f) (h0 : σ[0]? = some (some (.ref x)))
    (hx : H x = some (.ins C dx fs)) (hl : fs.length < 1000) (he : ∀ q, putF f (.ref q) fs = fs' q) (k : ∀ q H', H q = none → But x H H' → H' q = some (.lst [.int 0]) → H' x = some (.ins C dx (fs' q)) → D.nx σ H') : sFld K (tVar 0) (tLst (tCons (tC (V.int 0)) tNil)) f D σ H := by
  refine ⟨(by show 1 ≤ sizeLine; decide), fun q hq => ?_⟩
  have nq : x ≠ q := ne_of_none hx hq
  refine ⟨_, h0, x, C, dx, fs, rfl, (by rw [upd_ne nq]; exact hx), cl, na, hl, k q _ hq (fun b o hb ho => ?_) ?_ (by rw [he, upd_same])⟩
  · rw [upd_ne hb, upd_ne (ne_of_none ho hq)]
    exact ho
  · rw [upd_ne (Ne.symm nq), upd_same]
/-- self.f = a new history -/
theorem sf_his {C x dx CH : Addr} {fs : List (Str × V)} {H : Hp} {D : Ends} {σ : St} {f : Str} {te : TE}
    (hte : ∀ Q : VK, (∀ q ro lk dh y Hh, Same H Hh → Hh q = some (.ins CH dh (hisF ro lk y)) → Hh ro = some (.lst []) → Hh lk = some (.lst []) → H q = none → H ro = none → H lk = none → ro ≠ lk → Q (.ref q) Hh) → te σ H Q)
    (cl : Cls K C) (na : NoAttr K C f) (h0 : σ[0]? = some (some (.ref x)))
    (hx : H x = some (.ins C dx fs)) (hl : fs.length < 1000) (k : ∀ q H' ro lk dh y, But x H H' → H' x = some (.ins C dx (putF f (.ref q) fs)) → H' q = some (.ins CH dh (hisF ro lk y)) → H' ro = some (.lst []) → H' lk = some (.lst []) → H q = none → H ro = none → H lk = none → ro ≠ lk → D.nx σ H') : sFld K (tVar 0) te f D σ H :=
  hte _ fun q ro lk dh y Hh s1 e1 e2 e3 z1 z2 z3 n => by
    have nq : x ≠ q := ne_of_none hx z1
    have nr : x ≠ ro := ne_of_none hx z2
    have nl : x ≠ lk := ne_of_none hx z3
    refine ⟨_, h0, x, C, dx, fs, rfl, s1 _ _ hx, cl, na, hl, k q _ ro lk dh y (fun b o hb ho => ?_) upd_same ?_ ?_ ?_ z1 z2 z3 n⟩
    · rw [upd_ne hb]; exact s1 _ _ ho
    · rw [upd_ne (Ne.symm nq)]; exact e1
    · rw [upd_ne (Ne.symm nr)]; exact e2
    · rw [upd_ne (Ne.symm nl)]; exact e3
theorem if_no {c : TT} {t : TS} {D : Ends} {σ : St} {H : Hp} (hc : ∀ Q : Bool → Hp → Prop, Q false H → c σ H Q) (h2 : D.nx σ H) : tIfS c t tNext D σ H := hc _ (iteF h2)
def hisY (v : List V) : Nat → V := fun n => v.getD n .non
def spHisI (A : Adr) : Sp := fun vs H Q _ => ∃ (h dh : Addr), vs = [.ref h] ∧ H h = some (.ins A.c_History dh []) ∧
  ∀ H' ro lk y, But h H H' → H' h = some (.ins A.c_History dh (hisF ro lk y)) → H' ro = some (.lst []) → H' lk = some (.lst []) → H ro = none → H lk = none → ro ≠ lk → Q .non H'
theorem ok_History_init (G : Txt K mg A) : FnOk P w K mg base CX0 1 A.a_History_init A.fd_History_init p_History_init (spHisI A) := by
  refine G.f_History_init.ok sc_History_init (fun vs H Q E h => ?_) (fun cdv A' outer s H vs Q E hr h => ?_)
  · obtain ⟨x, dx, rfl, _⟩ := h
    rfl
  · obtain ⟨x, dx, rfl, hx, k⟩ := h
    have cl := G.cl_History
    refine ⟨_, (pss_cons (ps_fld (pv 0) (pe_lst pa_nil) rfl)
  (pss_cons (ps_fld (pv 0) (pe_lst pa_nil) rfl)
  (pss_cons (ps_fld (pv 0) (pe_lst pa_nil) rfl)
  (pss_cons (ps_fld (pv 0) pe_int rfl)
  (pss_cons (ps_fld (pv 0) (pe_lst pa_nil) rfl)
  (pss_cons (ps_fld (pv 0) (pe_lst pa_nil) rfl)
  (pss_cons (ps_fld (pv 0) (pe_lst (pa_cons pe_int pa_nil)) rfl)
  (pss_cons (ps_fld (pv 0) (pe_lst (pa_cons pe_int pa_nil)) rfl)
  (pss_cons (ps_fld (pv 0) (pe_lst (pa_cons pe_int pa_nil)) rfl)
  (pss_cons (ps_fld (pv 0) (pe_lst (pa_cons pe_int pa_nil)) rfl)
  (pss_cons (ps_fld (pv 0) (pe_lst pa_nil) rfl)
  (pss_cons (ps_fld (pv 0) pe_int rfl)
  (pss_cons (ps_fld (pv 0) pe_bl rfl)
  (pss_one (ps_fld (pv 0) pe_bl rfl))))))))))))))), ?_⟩
    refine sf_list (fs := []) (fs' := fun q1 => [("row", .ref q1)]) cl G.n_History_row rfl hx (by show 0 < 1000; decide) (fun _ => rfl) (fun q1 H1 z1 b1 d1 e1 => ?_)
    try dsimp only
    refine sf_list (fs := [("row", .ref q1)]) (fs' := fun q2 => [("row", .ref q1), ("holes", .ref q2)]) cl G.n_History_holes rfl e1 (by show 1 < 1000; decide) (fun _ => rfl) (fun q2 H2 z2 b2 d2 e2 => ?_)
    try dsimp only
    refine sf_list (fs := [("row", .ref q1), ("holes", .ref q2)]) (fs' := fun q3 => [("row", .ref q1), ("holes", .ref q2), ("locked", .ref q3)]) cl G.n_History_locked rfl e2 (by show 2 < 1000; decide) (fun _ => rfl) (fun q3 H3 z3 b3 d3 e3 => ?_)
    try dsimp only
    refine sf_val (fs := [("row", .ref q1), ("holes", .ref q2), ("locked", .ref q3)]) (fs' := [("row", .ref q1), ("holes", .ref q2), ("locked", .ref q3), ("classes", .int 0)]) (fun Q q => q) cl G.n_History_classes rfl e3 (by show 3 < 1000; decide) rfl (fun H4 b4 n4 e4 => ?_)
    try dsimp only
    refine sf_list (fs := [("row", .ref q1), ("holes", .ref q2), ("locked", .ref q3), ("classes", .int 0)]) (fs' := fun q5 => [("row", .ref q1), ("holes", .ref q2), ("locked", .ref q3), ("classes", .int 0), ("touches", .ref q5)]) cl G.n_History_touches rfl e4 (by show 4 < 1000; decide) (fun _ => rfl) (fun q5 H5 z5 b5 d5 e5 => ?_)
    try dsimp only
    refine sf_list (fs := [("row", .ref q1), ("holes", .ref q2), ("locked", .ref q3), ("classes", .int 0), ("touches", .ref q5)]) (fs' := fun q6 => [("row", .ref q1), ("holes", .ref q2), ("locked", .ref q3), ("classes", .int 0), ("touches", .ref q5), ("distances", .ref q6)]) cl G.n_History_distances rfl e5 (by show 5 < 1000; decide) (fun _ => rfl) (fun q6 H6 z6 b6 d6 e6 => ?_)
    try dsimp only
    refine sf_list0 (fs := [("row", .ref q1), ("holes", .ref q2), ("locked", .ref q3), ("classes", .int 0), ("touches", .ref q5), ("distances", .ref q6)]) (fs' := fun q7 => [("row", .ref q1), ("holes", .ref q2), ("locked", .ref q3), ("classes", .int 0), ("touches", .ref q5), ("distances", .ref q6), ("swap_outs", .ref q7)]) cl G.n_History_swap_outs rfl e6 (by show 6 < 1000; decide) (fun _ => rfl) (fun q7 H7 z7 b7 d7 e7 => ?_)
    try dsimp only
    refine sf_list0 (fs := [("row", .ref q1), ("holes", .ref q2), ("locked", .ref q3), ("classes", .int 0), ("touches", .ref q5), ("distances", .ref q6), ("swap_outs", .ref q7)]) (fs' := fun q8 => [("row", .ref q1), ("holes", .ref q2), ("locked", .ref q3), ("classes", .int 0), ("touches", .ref q5), ("distances", .ref q6), ("swap_outs", .ref q7), ("write_backs", .ref q8)]) cl G.n_History_write_backs rfl e7 (by show 7 < 1000; decide) (fun _ => rfl) (fun q8 H8 z8 b8 d8 e8 => ?_)
    try dsimp only
    refine sf_list0 (fs := [("row", .ref q1), ("holes", .ref q2), ("locked", .ref q3), ("classes", .int 0), ("touches", .ref q5), ("distances", .ref q6), ("swap_outs", .ref q7), ("write_backs", .ref q8)]) (fs' := fun q9 => [("row", .ref q1), ("holes", .ref q2), ("locked", .ref q3), ("classes", .int 0), ("touches", .ref q5), ("distances", .ref q6), ("swap_outs", .ref q7), ("write_backs", .ref q8), ("most_slots", .ref q9)]) cl G.n_History_most_slots rfl e8 (by show 8 < 1000; decide) (fun _ => rfl) (fun q9 H9 z9 b9 d9 e9 => ?_)
    try dsimp only
    refine sf_list0 (fs := [("row", .ref q1), ("holes", .ref q2), ("locked", .ref q3), ("classes", .int 0), ("touches", .ref q5), ("distances", .ref q6), ("swap_outs", .ref q7), ("write_backs", .ref q8), ("most_slots", .ref q9)]) (fs' := fun q10 => [("row", .ref q1), ("holes", .ref q2), ("locked", .ref q3), ("classes", .int 0), ("touches", .ref q5), ("distances", .ref q6), ("swap_outs", .ref q7), ("write_backs", .ref q8), ("most_slots", .ref q9), ("saves", .ref q10)]) cl G.n_History_saves rfl e9 (by show 9 < 1000; decide) (fun _ => rfl) (fun q10 H10 z10 b10 d10 e10 => ?_)
    try dsimp only
    refine sf_list (fs := [("row", .ref q1), ("holes", .ref q2), ("locked", .ref q3), ("classes", .int 0), ("touches", .ref q5), ("distances", .ref q6), ("swap_outs", .ref q7), ("write_backs", .ref q8), ("most_slots", .ref q9), ("saves", .ref q10)]) (fs' := fun q11 => [("row", .ref q1), ("holes", .ref q2), ("locked", .ref q3), ("classes", .int 0), ("touches", .ref q5), ("distances", .ref q6), ("swap_outs", .ref q7), ("write_backs", .ref q8), ("most_slots", .ref q9), ("saves", .ref q10), ("lock_changes", .ref q11)]) cl G.n_History_lock_changes rfl e10 (by show 10 < 1000; decide) (fun _ => rfl) (fun q11 H11 z11 b11 d11 e11 => ?_)
    try dsimp only
    refine sf_val (fs := [("row", .ref q1), ("holes", .ref q2), ("locked", .ref q3), ("classes", .int 0), ("touches", .ref q5), ("distances", .ref q6), ("swap_outs", .ref q7), ("write_backs", .ref q8), ("most_slots", .ref q9), ("saves", .ref q10), ("lock_changes", .ref q11)]) (fs' := [("row", .ref q1), ("holes", .ref q2), ("locked", .ref q3), ("classes", .int 0), ("touches", .ref q5), ("distances", .ref q6), ("swap_outs", .ref q7), ("write_backs", .ref q8), ("most_slots", .ref q9), ("saves", .ref q10), ("lock_changes", .ref q11), ("most_locked", .int 0)]) (fun Q q => q) cl G.n_History_most_locked rfl e11 (by show 11 < 1000; decide) rfl (fun H12 b12 n12 e12 => ?_)
    try dsimp only
    refine sf_val (fs := [("row", .ref q1), ("holes", .ref q2), ("locked", .ref q3), ("classes", .int 0), ("touches", .ref q5), ("distances", .ref q6), ("swap_outs", .ref q7), ("write_backs", .ref q8), ("most_slots", .ref q9), ("saves", .ref q10), ("lock_changes", .ref q11), ("most_locked", .int 0)]) (fs' := [("row", .ref q1), ("holes", .ref q2), ("locked", .ref q3), ("classes", .int 0), ("touches", .ref q5), ("distances", .ref q6), ("swap_outs", .ref q7), ("write_backs", .ref q8), ("most_slots", .ref q9), ("saves", .ref q10), ("lock_changes", .ref q11), ("most_locked", .int 0), ("crashed", .bl false)]) (fun Q q => q) cl G.n_History_crashed rfl e12 (by show 12 < 1000; decide) rfl (fun H13 b13 n13 e13 => ?_)
    try dsimp only
    refine sf_val (fs := [("row", .ref q1), ("holes", .ref q2), ("locked", .ref q3), ("classes", .int 0), ("touches", .ref q5), ("distances", .ref q6), ("swap_outs", .ref q7), ("write_backs", .ref q8), ("most_slots", .ref q9), ("saves", .ref q10), ("lock_changes", .ref q11), ("most_locked", .int 0), ("crashed", .bl false)]) (fs' := [("row", .ref q1), ("holes", .ref q2), ("locked", .ref q3), ("classes", .int 0), ("touches", .ref q5), ("distances", .ref q6), ("swap_outs", .ref q7), ("write_backs", .ref q8), ("most_slots", .ref q9), ("saves", .ref q10), ("lock_changes", .ref q11), ("most_locked", .int 0), ("crashed", .bl false), ("merged", .bl false)]) (fun Q q => q) cl G.n_History_merged rfl e13 (by show 13 < 1000; decide) rfl (fun H14 b14 n14 e14 => ?_)
    try dsimp only
    have n8 : ∀ {b : Addr} {Hx : Hp}, (∃ o, Hx x = some o) → Hx b = none → b ≠ x := fun ⟨o, e⟩ z => (ne_of_none e z).symm
    have m1 := n8 ⟨_, hx⟩ z1
    have m3 := n8 ⟨_, e2⟩ z3
    have a1 := b2 _ _ m1 d1
    have n13 : q1 ≠ q3 := ne_of_none a1 z3
    have t2 : But x H H2 := b1.trans b2
    have t4 : But x H3 H14 := b4.trans (b5.trans (b6.trans (b7.trans (b8.trans (b9.trans (b10.trans (b11.trans (b12.trans (b13.trans b14)))))))))
    have z3' : H q3 = none := by
      cases ho : H q3 with
      | none => rfl
      | some o => rw [t2 _ o m3 ho] at z3; cases z3
    exact k H14 q1 q3 (hisY [.ref q2, .int 0, .ref q5, .ref q6, .ref q7, .ref q8, .ref q9, .ref q10, .ref q11, .int 0, .bl false, .bl false]) (t2.trans (b3.trans t4)) e14 (t4 _ _ m1 (b3 _ _ m1 a1)) (t4 _ _ m3 d3) z1 z3' n13
def spInit (A : Adr) : Sp := fun vs H Q E => ∃ (x dx : Addr), vs = [.ref x, .non, .non, .bl false] ∧ H x = some (.ins A.c_System dx []) ∧
  ∀ H' wh τ, But x H H' → (∀ b g, τ b = some g → b = x ∨ H b = none) → Sr A H' x wh S0 τ → H' wh.fi = some (.dK []) → Q .non H'
theorem ok_System_init (G : Txt K mg A) : FnOk P w K mg base CX0 3 A.a_System_init A.fd_System_init p_System_init (spInit A) := by
  refine G.f_System_init.ok sc_System_init (fun vs H Q E h => ?_) (fun cdv A' outer s H vs Q E hr h => ?_)
  · obtain ⟨x, dx, rfl, _⟩ := h
    rfl
  · obtain ⟨x, dx, rfl, hx, k⟩ := h
    have cl := G.cl_System
    refine ⟨_, (pss_cons (ps_if (PW.pt (pw_and (pt_cmpR op_notN (pv 1) pe_non (nomark _)) (pw_and1 (pt_not (pt_val pe_nev))))) (pss_one ps_never) pss_nil)
  (pss_cons (ps_if (PW.pt (pw_and (pt_cmpR op_notN (pv 2) pe_non (nomark _)) (pw_and1 (pt_not (pt_val pe_nev))))) (pss_one ps_never) pss_nil)
  (pss_cons (ps_if (PW.pt (pw_or (pt_not (pt_val (pe_callB call_isi (by rfl) G.b_isinstance (by decide +kernel) (pa_cons (pv 3) (pa_cons (pe_bltn (v := .ty "bool") (u := .type "bool") (by rfl) G.b_bool (by decide +kernel) rfl) pa_nil))))) (pw_or1 (PW.pt (pw_and (pt_val (pv 3)) (pw_and1 (PW.pt (pw_or (pt_cmpR op_isN (pv 1) pe_non (nomark _)) (pw_or1 (pt_cmpR op_isN (pv 2) pe_non (nomark _))))))))))) (pss_one ps_never) pss_nil)
  (pss_cons (ps_fld (pv 0) (pv 1) rfl)
  (pss_cons (ps_fld (pv 0) (pv 2) rfl)
  (pss_cons (ps_fld (pv 0) (pv 3) rfl)
  (pss_cons (ps_fld (pv 0) pe_int rfl)
  (pss_cons (ps_fld (pv 0) pe_int rfl)
  (pss_cons (ps_fld (pv 0) pe_int rfl)
  (pss_cons (ps_fld (pv 0) pe_dnewK rfl)
  (pss_cons (ps_fld (pv 0) pe_dnewK rfl)
  (pss_cons (ps_fld (pv 0) pe_dnewT rfl)
  (pss_cons (ps_fld (pv 0) pe_dnewK rfl)
  (pss_cons (ps_fld (pv 0) pe_dnewK rfl)
  (pss_cons (ps_fld (pv 0) pe_int rfl)
  (pss_cons (ps_fld (pv 0) pe_dnewK rfl)
  (pss_cons (ps_fld (pv 0) pe_dnewK rfl)
  (pss_cons (ps_fld (pv 0) pe_int rfl)
  (pss_cons (ps_fld (pv 0) pe_int rfl)
  (pss_cons (ps_fld (pv 0) pe_int rfl)
  (pss_one (ps_fld (pv 0) (pe_make0 G.mk_History (ok_History_init G) (hr.mono (by decide)) rfl G.g_History G.bi_History_init .nil pass0) rfl)))))))))))))))))))))), ?_⟩
    refine if_no (fun Q q => ⟨_, rfl, rfl, _, rfl, iteF q⟩) ?_
    dsimp only
    refine if_no (fun Q q => ⟨_, rfl, rfl, _, rfl, iteF q⟩) ?_
    dsimp only
    refine if_no (fun Q q => ⟨_, rfl, .bl false, .ty "bool", .type "bool", .type "bool", true, rfl, .ty "bool", .base (.bl false), kit_ty (by decide +kernel), _, rfl, iteF ⟨_, rfl, _, rfl, iteF q⟩⟩) ?_
    dsimp only
    have v1 : ∀ {j : Nat} {v : V} {H : Hp}, (L2.start n_System_init [V.ref x, .non, .non, .bl false])[j]? = some (some v) → ∀ Q : VK, Q v H → tVar j (L2.start n_System_init [V.ref x, .non, .non, .bl false]) H Q := fun h Q q => ⟨_, h, q⟩
    have n8 : ∀ {b : Addr} {Hx : Hp}, (∃ o, Hx x = some o) → Hx b = none → b ≠ x := fun ⟨o, e⟩ z => (ne_of_none e z).symm
    have fr : ∀ {b : Addr} {Hx : Hp}, But x H Hx → b ≠ x → Hx b = none → H b = none := fun {b Hx} bt n e => by
      cases ho : H b with
      | none => rfl
      | some o => rw [bt b o n ho] at e; cases e
    have t0 : But x H H := fun _ _ _ e => e
    refine sf_val (fs := []) (fs' := [("frames", .non)]) (v1 (j := 1) rfl) cl G.n_System_frames rfl hx (by show 0 < 1000; decide) rfl (fun H1 b1 n1 e1 => ?_)
    try dsimp only
    have t1 := t0.trans b1
    refine sf_val (fs := [("frames", .non)]) (fs' := [("frames", .non), ("slots", .non)]) (v1 (j := 2) rfl) cl G.n_System_slots rfl e1 (by show 1 < 1000; decide) rfl (fun H2 b2 n2 e2 => ?_)
    try dsimp only
    have t2 := t1.trans b2
    refine sf_val (fs := [("frames", .non), ("slots", .non)]) (fs' := [("frames", .non), ("slots", .non), ("strict", .bl false)]) (v1 (j := 3) rfl) cl G.n_System_strict rfl e2 (by show 2 < 1000; decide) rfl (fun H3 b3 n3 e3 => ?_)
    try dsimp only
    have t3 := t2.trans b3
    refine sf_val (fs := [("frames", .non), ("slots", .non), ("strict", .bl false)]) (fs' := [("frames", .non), ("slots", .non), ("strict", .bl false), ("steps_made", .int 0)]) (fun Q q => q) cl G.n_System_steps_made rfl e3 (by show 3 < 1000; decide) rfl (fun H4 b4 n4 e4 => ?_)
    try dsimp only
    have t4 := t3.trans b4
    refine sf_val (fs := [("frames", .non), ("slots", .non), ("strict", .bl false), ("steps_made", .int 0)]) (fs' := [("frames", .non), ("slots", .non), ("strict", .bl false), ("steps_made", .int 0), ("processes_made", .int 0)]) (fun Q q => q) cl G.n_System_processes_made rfl e4 (by show 4 < 1000; decide) rfl (fun H5 b5 n5 e5 => ?_)
    try dsimp only
    have t5 := t4.trans b5
    refine sf_val (fs := [("frames", .non), ("slots", .non), ("strict", .bl false), ("steps_made", .int 0), ("processes_made", .int 0)]) (fs' := [("frames", .non), ("slots", .non), ("strict", .bl false), ("steps_made", .int 0), ("processes_made", .int 0), ("objects_made", .int 0)]) (fun Q q => q) cl G.n_System_objects_made rfl e5 (by show 5 < 1000; decide) rfl (fun H6 b6 n6 e6 => ?_)
    try dsimp only
    have t6 := t5.trans b6
    refine sf_dict (fs := [("frames", .non), ("slots", .non), ("strict", .bl false), ("steps_made", .int 0), ("processes_made", .int 0), ("objects_made", .int 0)]) (fs' := fun q7 => [("frames", .non), ("slots", .non), ("strict", .bl false), ("steps_made", .int 0), ("processes_made", .int 0), ("objects_made", .int 0), ("tables", .ref q7)]) cl G.n_System_tables rfl e6 (by show 6 < 1000; decide) (fun _ => rfl) (fun q7 H7 z7 b7 d7 e7 => ?_)
    try dsimp only
    have m7 := n8 ⟨_, e6⟩ z7
    have f7 := fr t6 m7 z7
    have a7 := d7
    have t7 := t6.trans b7
    refine sf_dict (fs := [("frames", .non), ("slots", .non), ("strict", .bl false), ("steps_made", .int 0), ("processes_made", .int 0), ("objects_made", .int 0), ("tables", .ref q7)]) (fs' := fun q8 => [("frames", .non), ("slots", .non), ("strict", .bl false), ("steps_made", .int 0), ("processes_made", .int 0), ("objects_made", .int 0), ("tables", .ref q7), ("objects", .ref q8)]) cl G.n_System_objects rfl e7 (by show 7 < 1000; decide) (fun _ => rfl) (fun q8 H8 z8 b8 d8 e8 => ?_)
    try dsimp only
    have m8 := n8 ⟨_, e7⟩ z8
    have n7_8 : q7 ≠ q8 := ne_of_none a7 z8
    have f8 := fr t7 m8 z8
    have a7 := b8 _ _ m7 a7
    have a8 := d8
    have t8 := t7.trans b8
    refine sf_dictT (fs := [("frames", .non), ("slots", .non), ("strict", .bl false), ("steps_made", .int 0), ("processes_made", .int 0), ("objects_made", .int 0), ("tables", .ref q7), ("objects", .ref q8)]) (fs' := fun q9 => [("frames", .non), ("slots", .non), ("strict", .bl false), ("steps_made", .int 0), ("processes_made", .int 0), ("objects_made", .int 0), ("tables", .ref q7), ("objects", .ref q8), ("object_pages", .ref q9)]) cl G.n_System_object_pages rfl e8 (by show 8 < 1000; decide) (fun _ => rfl) (fun q9 H9 z9 b9 d9 e9 => ?_)
    try dsimp only
    have m9 := n8 ⟨_, e8⟩ z9
    have n7_9 : q7 ≠ q9 := ne_of_none a7 z9
    have n8_9 : q8 ≠ q9 := ne_of_none a8 z9
    have f9 := fr t8 m9 z9
    have a7 := b9 _ _ m7 a7
    have a8 := b9 _ _ m8 a8
    have a9 := d9
    have t9 := t8.trans b9
    refine sf_dict (fs := [("frames", .non), ("slots", .non), ("strict", .bl false), ("steps_made", .int 0), ("processes_made", .int 0), ("objects_made", .int 0), ("tables", .ref q7), ("objects", .ref q8), ("object_pages", .ref q9)]) (fs' := fun q10 => [("frames", .non), ("slots", .non), ("strict", .bl false), ("steps_made", .int 0), ("processes_made", .int 0), ("objects_made", .int 0), ("tables", .ref q7), ("objects", .ref q8), ("object_pages", .ref q9), ("files", .ref q10)]) cl G.n_System_files rfl e9 (by show 9 < 1000; decide) (fun _ => rfl) (fun q10 H10 z10 b10 d10 e10 => ?_)
    try dsimp only
    have m10 := n8 ⟨_, e9⟩ z10
    have n7_10 : q7 ≠ q10 := ne_of_none a7 z10
    have n8_10 : q8 ≠ q10 := ne_of_none a8 z10
    have n9_10 : q9 ≠ q10 := ne_of_none a9 z10
    have f10 := fr t9 m10 z10
    have a7 := b10 _ _ m7 a7
    have a8 := b10 _ _ m8 a8
    have a9 := b10 _ _ m9 a9
    have a10 := d10
    have t10 := t9.trans b10
    refine sf_dict (fs := [("frames", .non), ("slots", .non), ("strict", .bl false), ("steps_made", .int 0), ("processes_made", .int 0), ("objects_made", .int 0), ("tables", .ref q7), ("objects", .ref q8), ("object_pages", .ref q9), ("files", .ref q10)]) (fs' := fun q11 => [("frames", .non), ("slots", .non), ("strict", .bl false), ("steps_made", .int 0), ("processes_made", .int 0), ("objects_made", .int 0), ("tables", .ref q7), ("objects", .ref q8), ("object_pages", .ref q9), ("files", .ref q10), ("classes", .ref q11)]) cl G.n_System_classes rfl e10 (by show 10 < 1000; decide) (fun _ => rfl) (fun q11 H11 z11 b11 d11 e11 => ?_)
    try dsimp only
    have a7 := b11 _ _ m7 a7
    have a8 := b11 _ _ m8 a8
    have a9 := b11 _ _ m9 a9
    have a10 := b11 _ _ m10 a10
    have t11 := t10.trans b11
    refine sf_val (fs := [("frames", .non), ("slots", .non), ("strict", .bl false), ("steps_made", .int 0), ("processes_made", .int 0), ("objects_made", .int 0), ("tables", .ref q7), ("objects", .ref q8), ("object_pages", .ref q9), ("files", .ref q10), ("classes", .ref q11)]) (fs' := [("frames", .non), ("slots", .non), ("strict", .bl false), ("steps_made", .int 0), ("processes_made", .int 0), ("objects_made", .int 0), ("tables", .ref q7), ("objects", .ref q8), ("object_pages", .ref q9), ("files", .ref q10), ("classes", .ref q11), ("locked_pages", .int 0)]) (fun Q q => q) cl G.n_System_locked_pages rfl e11 (by show 11 < 1000; decide) rfl (fun H12 b12 n12 e12 => ?_)
    try dsimp only
    have a7 := b12 _ _ m7 a7
    have a8 := b12 _ _ m8 a8
    have a9 := b12 _ _ m9 a9
    have a10 := b12 _ _ m10 a10
    have t12 := t11.trans b12
    refine sf_dict (fs := [("frames", .non), ("slots", .non), ("strict", .bl false), ("steps_made", .int 0), ("processes_made", .int 0), ("objects_made", .int 0), ("tables", .ref q7), ("objects", .ref q8), ("object_pages", .ref q9), ("files", .ref q10), ("classes", .ref q11), ("locked_pages", .int 0)]) (fs' := fun q13 => [("frames", .non), ("slots", .non), ("strict", .bl false), ("steps_made", .int 0), ("processes_made", .int 0), ("objects_made", .int 0), ("tables", .ref q7), ("objects", .ref q8), ("object_pages", .ref q9), ("files", .ref q10), ("classes", .ref q11), ("locked_pages", .int 0), ("memory", .ref q13)]) cl G.n_System_memory rfl e12 (by show 12 < 1000; decide) (fun _ => rfl) (fun q13 H13 z13 b13 d13 e13 => ?_)
    try dsimp only
    have a7 := b13 _ _ m7 a7
    have a8 := b13 _ _ m8 a8
    have a9 := b13 _ _ m9 a9
    have a10 := b13 _ _ m10 a10
    have t13 := t12.trans b13
    refine sf_dict (fs := [("frames", .non), ("slots", .non), ("strict", .bl false), ("steps_made", .int 0), ("processes_made", .int 0), ("objects_made", .int 0), ("tables", .ref q7), ("objects", .ref q8), ("object_pages", .ref q9), ("files", .ref q10), ("classes", .ref q11), ("locked_pages", .int 0), ("memory", .ref q13)]) (fs' := fun q14 => [("frames", .non), ("slots", .non), ("strict", .bl false), ("steps_made", .int 0), ("processes_made", .int 0), ("objects_made", .int 0), ("tables", .ref q7), ("objects", .ref q8), ("object_pages", .ref q9), ("files", .ref q10), ("classes", .ref q11), ("locked_pages", .int 0), ("memory", .ref q13), ("swapped", .ref q14)]) cl G.n_System_swapped rfl e13 (by show 13 < 1000; decide) (fun _ => rfl) (fun q14 H14 z14 b14 d14 e14 => ?_)
    try dsimp only
    have a7 := b14 _ _ m7 a7
    have a8 := b14 _ _ m8 a8
    have a9 := b14 _ _ m9 a9
    have a10 := b14 _ _ m10 a10
    have t14 := t13.trans b14
    refine sf_val (fs := [("frames", .non), ("slots", .non), ("strict", .bl false), ("steps_made", .int 0), ("processes_made", .int 0), ("objects_made", .int 0), ("tables", .ref q7), ("objects", .ref q8), ("object_pages", .ref q9), ("files", .ref q10), ("classes", .ref q11), ("locked_pages", .int 0), ("memory", .ref q13), ("swapped", .ref q14)]) (fs' := [("frames", .non), ("slots", .non), ("strict", .bl false), ("steps_made", .int 0), ("processes_made", .int 0), ("objects_made", .int 0), ("tables", .ref q7), ("objects", .ref q8), ("object_pages", .ref q9), ("files", .ref q10), ("classes", .ref q11), ("locked_pages", .int 0), ("memory", .ref q13), ("swapped", .ref q14), ("faults", .int 0)]) (fun Q q => q) cl G.n_System_faults rfl e14 (by show 14 < 1000; decide) rfl (fun H15 b15 n15 e15 => ?_)
    try dsimp only
    have a7 := b15 _ _ m7 a7
    have a8 := b15 _ _ m8 a8
    have a9 := b15 _ _ m9 a9
    have a10 := b15 _ _ m10 a10
    have t15 := t14.trans b15
    refine sf_val (fs := [("frames", .non), ("slots", .non), ("strict", .bl false), ("steps_made", .int 0), ("processes_made", .int 0), ("objects_made", .int 0), ("tables", .ref q7), ("objects", .ref q8), ("object_pages", .ref q9), ("files", .ref q10), ("classes", .ref q11), ("locked_pages", .int 0), ("memory", .ref q13), ("swapped", .ref q14), ("faults", .int 0)]) (fs' := [("frames", .non), ("slots", .non), ("strict", .bl false), ("steps_made", .int 0), ("processes_made", .int 0), ("objects_made", .int 0), ("tables", .ref q7), ("objects", .ref q8), ("object_pages", .ref q9), ("files", .ref q10), ("classes", .ref q11), ("locked_pages", .int 0), ("memory", .ref q13), ("swapped", .ref q14), ("faults", .int 0), ("swap_outs", .int 0)]) (fun Q q => q) cl G.n_System_swap_outs rfl e15 (by show 15 < 1000; decide) rfl (fun H16 b16 n16 e16 => ?_)
    try dsimp only
    have a7 := b16 _ _ m7 a7
    have a8 := b16 _ _ m8 a8
    have a9 := b16 _ _ m9 a9
    have a10 := b16 _ _ m10 a10
    have t16 := t15.trans b16
    refine sf_val (fs := [("frames", .non), ("slots", .non), ("strict", .bl false), ("steps_made", .int 0), ("processes_made", .int 0), ("objects_made", .int 0), ("tables", .ref q7), ("objects", .ref q8), ("object_pages", .ref q9), ("files", .ref q10), ("classes", .ref q11), ("locked_pages", .int 0), ("memory", .ref q13), ("swapped", .ref q14), ("faults", .int 0), ("swap_outs", .int 0)]) (fs' := [("frames", .non), ("slots", .non), ("strict", .bl false), ("steps_made", .int 0), ("processes_made", .int 0), ("objects_made", .int 0), ("tables", .ref q7), ("objects", .ref q8), ("object_pages", .ref q9), ("files", .ref q10), ("classes", .ref q11), ("locked_pages", .int 0), ("memory", .ref q13), ("swapped", .ref q14), ("faults", .int 0), ("swap_outs", .int 0), ("write_backs", .int 0)]) (fun Q q => q) cl G.n_System_write_backs rfl e16 (by show 16 < 1000; decide) rfl (fun H17 b17 n17 e17 => ?_)
    try dsimp only
    have a7 := b17 _ _ m7 a7
    have a8 := b17 _ _ m8 a8
    have a9 := b17 _ _ m9 a9
    have a10 := b17 _ _ m10 a10
    have t17 := t16.trans b17
    refine sf_his (CH := A.c_History) (fs := [("frames", .non), ("slots", .non), ("strict", .bl false), ("steps_made", .int 0), ("processes_made", .int 0), ("objects_made", .int 0), ("tables", .ref q7), ("objects", .ref q8), ("object_pages", .ref q9), ("files", .ref q10), ("classes", .ref q11), ("locked_pages", .int 0), ("memory", .ref q13), ("swapped", .ref q14), ("faults", .int 0), ("swap_outs", .int 0), ("write_backs", .int 0)]) (fun Q q => fun hh dhh hhn hdhn hne => ⟨hh, dhh, rfl, upd_same, fun H' ro lk y b1 e1 e2 e3 z2 z3 n => ⟨rfl, ?_⟩⟩) cl G.n_System_history rfl e17 (by show 17 < 1000; decide) (fun q18 H18 ro lk dh y b18 e18 hh1 hh2 hh3 hn1 hn2 hn3 hn4 => ?_)
    · have s1 : Same H17 H' := same_made hhn hdhn b1
      have o1 : Same H17 (upd (upd H17 dhh (.own hh)) hh (.ins A.c_History dhh [])) := (Same.new hdhn).trans (Same.new (by rw [upd_ne (Ne.symm hne)]; exact hhn))
      exact q hh ro lk dhh y H' s1 e1 e2 e3 hhn (Same.free o1 z2) (Same.free o1 z3) n
    try dsimp only
    have mh := n8 ⟨_, e17⟩ hn1
    have n7_h : q7 ≠ q18 := ne_of_none a7 hn1
    have n8_h : q8 ≠ q18 := ne_of_none a8 hn1
    have n9_h : q9 ≠ q18 := ne_of_none a9 hn1
    have n10_h : q10 ≠ q18 := ne_of_none a10 hn1
    have ffh := fr t17 mh hn1
    have mr := n8 ⟨_, e17⟩ hn2
    have n7_r : q7 ≠ ro := ne_of_none a7 hn2
    have n8_r : q8 ≠ ro := ne_of_none a8 hn2
    have n9_r : q9 ≠ ro := ne_of_none a9 hn2
    have n10_r : q10 ≠ ro := ne_of_none a10 hn2
    have ffr := fr t17 mr hn2
    have ml := n8 ⟨_, e17⟩ hn3
    have n7_l : q7 ≠ lk := ne_of_none a7 hn3
    have n8_l : q8 ≠ lk := ne_of_none a8 hn3
    have n9_l : q9 ≠ lk := ne_of_none a9 hn3
    have n10_l : q10 ≠ lk := ne_of_none a10 hn3
    have ffl := fr t17 ml hn3
    have a7 := b18 _ _ m7 a7
    have a8 := b18 _ _ m8 a8
    have a9 := b18 _ _ m9 a9
    have a10 := b18 _ _ m10 a10
    have t18 := t17.trans b18
    have nhr : q18 ≠ ro := fun z => by rw [z, hh2] at hh1; cases hh1
    have nhl : q18 ≠ lk := fun z => by rw [z, hh3] at hh1; cases hh1
    refine k H18 ⟨dx, q7, q8, q9, q10, q11, q13, q14, q18, ro⟩ (fun b => if b = x then some .sys else if b = q7 then some .tabs else if b = q8 then some .objs else if b = q9 then some .opgs else if b = q10 then some .files else if b = q18 then some .his else if b = ro then some .row else if b = lk then some .lks else none) t18 (fun b g hg => ?_) ?_ a10
    · split at hg
      · rename_i e; exact .inl e
      · refine .inr ?_
        repeat' (split at hg)
        all_goals first | (rename_i e; rw [e]; assumption) | cases hg
    · refine ⟨e18, if_pos rfl, ?_, ?_, ?_, ?_, ⟨[], _, a7, DI.nil, fun _ => True.intro⟩, ⟨[], _, a8, DI.nil, fun k i => cntS_S0 k i⟩, a9, ⟨[], a10, fun _ => rfl, Nat.zero_le _, fun _ z => (nomatch z)⟩, ⟨Int.le_refl _, by decide⟩, ⟨Int.le_refl _, by decide⟩, fun b g hg => ?_, ⟨⟨dh, lk, y, hh1, hh3, ?_⟩, hh2, ?_, ?_⟩⟩
      · simp only [if_neg m7, if_pos]
      · simp only [if_neg m8, if_neg (Ne.symm n7_8), if_pos]
      · simp only [if_neg m9, if_neg (Ne.symm n7_9), if_neg (Ne.symm n8_9), if_pos]
      · simp only [if_neg m10, if_neg (Ne.symm n7_10), if_neg (Ne.symm n8_10), if_neg (Ne.symm n9_10), if_pos]
      · split at hg
        · rename_i e; exact .inl e
        · refine .inr ?_
          repeat' (split at hg)
          all_goals first | (rename_i e; rw [e]; exact ⟨_, by assumption, rfl⟩) | cases hg
      · simp only [if_neg ml, if_neg (Ne.symm n7_l), if_neg (Ne.symm n8_l), if_neg (Ne.symm n9_l), if_neg (Ne.symm n10_l), if_neg (Ne.symm nhl), if_neg (Ne.symm hn4), if_pos]
      · simp only [if_neg mh, if_neg (Ne.symm n7_h), if_neg (Ne.symm n8_h), if_neg (Ne.symm n9_h), if_neg (Ne.symm n10_h), if_pos]
      · simp only [if_neg mr, if_neg (Ne.symm n7_r), if_neg (Ne.symm n8_r), if_neg (Ne.symm n9_r), if_neg (Ne.symm n10_r), if_neg (Ne.symm nhr), if_pos]
/-- a new process, without pages -/
def newS (S : Sys) : Sys := { S with p := S.p + 1, tabs := fun j => if j = S.p + 1 then some fun _ => none else S.tabs j }
theorem cntS_new {S : Sys} (h0 : 0 ≤ S.p) (h : S.p < 1000) (hn : S.tabs (S.p + 1) = none) (k i : Int) : cntS (newS S) k i = cntS S k i := by
  have a := cntS_set (S := S) (a := some fun _ => none) (i := S.p + 1) (by omega) (by omega) k i
  rw [hn] at a
  have b : cO k i (some fun _ => none) = 0 := cntT_none k i
  rw [b] at a
  have c := congrFun (congrFun (cntS_tabs (S := newS S) (S' := S.setTab (S.p + 1) (some fun _ => none)) rfl) k) i
  rw [c]
  simp only [cO] at a
  omega
def spNewP (A : Adr) : Sp := fun vs H Q _ => ∃ (x : Addr) (wh : Wh) (S : Sys) (τ : Tm), vs = [.ref x] ∧ Sr A H x wh S τ ∧ S.p < 1000 ∧ ∀ H' τ', Go τ H τ' H' → Sr A H' x wh (newS S) τ' → Q (.int (S.p + 1)) H'
theorem ok_new_process (G : Txt K mg A) : FnOk P w K mg base CX0 1 A.a_new_process A.fd_new_process p_new_process (spNewP A) := by
  refine G.f_new_process.ok sc_new_process (fun vs H Q E h => ?_) (fun cdv A' outer s H vs Q E hr h => ?_)
  · obtain ⟨x, wh, S, τ, rfl, _⟩ := h
    rfl
  · obtain ⟨x, wh, S, τ, rfl, hS, hl, k⟩ := h
    obtain ⟨cl, a3, a4, a5, a6, a7, a8, a9, a10⟩ := G.sysN
    refine ⟨_, (pss_cons (ps_fldaug (pv 0) pe_int in_add)
  (pss_cons (ps_dput (hu_of hr) (pe_fld (pv 0) rfl) (pe_fld (pv 0) rfl) pe_dnewK rfl)
  (pss_one (ps_ret (pe_fld (pv 0) rfl))))), ?_⟩
    have h1 := hS.hx
    obtain ⟨kvt, ft, ht, dit, rel⟩ := hS.tabs
    have nt : wh.t ≠ x := ne_tag hS.tt hS.tx (by simp)
    have bp := hS.bp
    refine ⟨_, rfl, x, _, _, _, _, rfl, h1, cl, a5, rfl, S.p, 1, rfl, rfl, _, _, h1, (by show 18 < 1000; decide), ?_⟩
    have hx' : (upd H x (.ins A.c_System wh.dx (putF "processes_made" (.int (S.p + 1)) (sysF S.n S.p S.o wh)))) x = some (.ins A.c_System wh.dx (sysF S.n (S.p + 1) S.o wh)) := upd_same
    intro q hq
    obtain ⟨nqx, hq0⟩ := upd_none hq
    have nqt : wh.t ≠ q := ne_of_none ht hq0
    have fn : ft (S.p + 1) = none := by
      have z := rel (S.p + 1)
      cases e : ft (S.p + 1) with
      | none => rfl
      | some v =>
        rw [e] at z
        cases e2 : S.tabs (S.p + 1) with
        | none => rw [e2] at z; exact z.elim
        | some T => rw [e2] at z; have := z.1; omega
    have tn : S.tabs (S.p + 1) = none := by
      have z := rel (S.p + 1)
      rw [fn] at z
      cases e2 : S.tabs (S.p + 1) with
      | none => rfl
      | some T => rw [e2] at z; exact z.elim
    have vn : valV kvt (Sum.inl (S.p + 1)) = none := (dit.val _).trans fn
    have len : kvt.length ≤ 1001 := dit.len fun i hi => by
      have z := rel i
      cases e : ft i with
      | none => rw [e] at hi; cases hi
      | some v =>
        rw [e] at z
        cases e2 : S.tabs i with
        | none => rw [e2] at z; exact z.elim
        | some T => rw [e2] at z; have := z.1; omega
    refine ⟨_, rfl, x, _, _, _, _, rfl, (by rw [upd_ne (Ne.symm nqx)]; exact hx'), cl, a7, rfl, _, rfl, x, _, _, _, _, rfl, (by rw [upd_ne (Ne.symm nqx)]; exact hx'), cl, a5, rfl, wh.t, _, rfl,
      DPut.k (k := Sum.inl (S.p + 1)) (kvs := kvt) (by rw [upd_ne nqt, upd_ne nt]; exact ht) (Nat.lt_of_le_of_lt len (by decide)), ?_⟩
    refine ⟨_, rfl, x, _, _, _, _, rfl, (by rw [upd_ne (Ne.symm nt), upd_ne (Ne.symm nqx)]; exact hx'), cl, a5, rfl, ?_⟩
    have tq := hS.fresh hq0
    have nu : ∀ {b : Addr} {g : Tag}, τ b = some g → b ≠ q := fun t e => by rw [e, tq] at t; cases t
    generalize hHf : upd (upd (upd H x (.ins A.c_System wh.dx (putF "processes_made" (.int (S.p + 1)) (sysF S.n S.p S.o wh)))) q (.dK [])) wh.t (.dK (putK kvt (Sum.inl (S.p + 1)) (.ref q))) = Hf
    have at_ : ∀ {b : Addr}, b ≠ x → b ≠ q → b ≠ wh.t → Hf b = H b := fun n1 n2 n3 => by rw [← hHf, upd_ne n3, upd_ne n2, upd_ne n1]
    have atT : ∀ {b : Addr} {g : Tag}, τ b = some g → g ≠ .sys → g ≠ .tabs → Hf b = H b := fun t n1 n2 => at_ (ne_tag t hS.tx n1) (nu t) (ne_tag t hS.tt n2)
    have hfx : Hf x = some (.ins A.c_System wh.dx (sysF S.n (S.p + 1) S.o wh)) := by rw [← hHf, upd_ne (Ne.symm nt), upd_ne (Ne.symm nqx)]; exact hx'
    have hft : Hf wh.t = some (.dK (putK kvt (Sum.inl (S.p + 1)) (.ref q))) := by rw [← hHf, upd_same]
    have hfq : Hf q = some (.dK []) := by rw [← hHf, upd_ne (Ne.symm nqt), upd_same]
    have im : ImmK H Hf := fun b o e i => by
      have t := hS.immN e i
      rw [at_ (fun z => by rw [z, hS.tx] at t; cases t) (ne_of_none e hq0) (fun z => by rw [z, hS.tt] at t; cases t)]
      exact e
    refine k Hf (setTag τ q (.tab (S.p + 1))) ⟨fun b o n e => ?_, fun b => ?_, fun b xs e => by rw [at_ (fun z => by rw [z, h1] at e; cases e) (ne_of_none e hq0) (fun z => by rw [z, ht] at e; cases e)]; exact e⟩ ?_
    · rw [at_ (fun z => by rw [z, hS.tx] at n; cases n) (ne_of_none e hq0) (fun z => by rw [z, hS.tt] at n; cases n)]
      exact e
    · by_cases z : b = q
      · rw [z]; exact .inr ⟨tq, hq0⟩
      · exact .inl (setTag_ne z)
    · show SyA A.c_System A.c_Page A.c_History Hf x wh (newS S) (setTag τ q (.tab (S.p + 1))) (cntS (newS S))
      have ec : cntS (newS S) = cntS S := by
        funext k i
        exact cntS_new bp.1 hl tn k i
      rw [ec]
      refine ⟨hfx, (setTag_ne (nu hS.tx)).trans hS.tx, (setTag_ne (nu hS.tt)).trans hS.tt, (setTag_ne (nu hS.to)).trans hS.to, (setTag_ne (nu hS.tg)).trans hS.tg, (setTag_ne (nu hS.tf)).trans hS.tf, ?_, ?_, (atT hS.tg (by simp) (by simp)).trans hS.ogs, ?_, ⟨by show 0 ≤ S.p + 1; omega, by show S.p + 1 ≤ 1000; omega⟩, hS.bo, fun b g hg => ?_, hS.his.keep (fun b g t c o e => by rw [atT t (by rcases c with c | c | c <;> rw [c] <;> simp) (by rcases c with c | c | c <;> rw [c] <;> simp)]; exact e) (fun b g t => (setTag_ne (nu t)).trans t)⟩
      · refine ⟨_, _, hft, dit.put _ _, fun i => ?_⟩
        by_cases ei : i = S.p + 1
        · subst ei
          simp only [if_pos]
          show TbO A.c_Page Hf _ (S.p + 1) (S.p + 1) (some (.ref q)) (if S.p + 1 = S.p + 1 then some (fun _ => none) else S.tabs (S.p + 1))
          rw [if_pos rfl]
          exact ⟨by omega, q, rfl, setTag_same, [], _, hfq, DI.nil, fun _ => True.intro⟩
        · simp only [if_neg ei]
          show TbO A.c_Page Hf _ (S.p + 1) i (ft i) (if i = S.p + 1 then some (fun _ => none) else S.tabs i)
          rw [if_neg ei]
          exact (rel i).keep im (fun d td _ => ⟨atT td (by simp) (by simp), setTag_ne (nu td)⟩) (by omega)
      · obtain ⟨kvs, f, g1, g2, g3⟩ := hS.obs
        exact ⟨kvs, f, (atT hS.to (by simp) (by simp)).trans g1, g2, fun i => (g3 i).keep (fun d td _ => ⟨atT td (by simp) (by simp), setTag_ne (nu td)⟩) (Int.le_refl _)⟩
      · obtain ⟨kvs, g1, g2⟩ := hS.fis
        exact ⟨kvs, (atT hS.tf (by simp) (by simp)).trans g1, g2⟩
      · by_cases z : b = q
        · rw [z]; exact .inr ⟨_, hfq, rfl⟩
        · rw [setTag_ne z] at hg
          rcases hS.own b g hg with y | ⟨o, y1, y2⟩
          · exact .inl y
          · by_cases z2 : b = wh.t
            · rw [z2]; exact .inr ⟨_, hft, rfl⟩
            · by_cases z3 : b = x
              · exact .inl z3
              · exact .inr ⟨o, (at_ z3 z z2).trans y1, y2⟩
def spnS (S : Sys) : Sys := { newS S with n := S.n + 1 }
def spSpawn (A : Adr) : Sp := fun vs H Q _ => ∃ (x : Addr) (wh : Wh) (S : Sys) (τ : Tm), vs = [.ref x] ∧ Sr A H x wh S τ ∧ S.p < 1000 ∧ ∀ H' τ', Go τ H τ' H' → Sr A H' x wh (spnS S) τ' → Q (.int (S.p + 1)) H'
theorem ok_spawn (G : Txt K mg A) : FnOk P w K mg base CX0 4 A.a_spawn A.fd_spawn p_spawn (spSpawn A) := by
  refine G.f_spawn.ok sc_spawn (fun vs H Q E h => ?_) (fun cdv A' outer s H vs Q E hr h => ?_)
  · obtain ⟨x, wh, S, τ, rfl, _⟩ := h
    rfl
  · obtain ⟨x, wh, S, τ, rfl, hS, hl, k⟩ := h
    refine ⟨_, (pss_cons (ps_set (i := 1) sc_spawn.nd rfl (Or.inl rfl) (pe_call (ok_new_process G) (hr.mono (by decide)) rfl G.g_new_process G.k_new_process G.bi_new_process .nil pass0 (pa_cons (pv 0) pa_nil)))
  (pss_cons (ps_expr (pe_call (ok_end_step G) (hr.mono (by decide)) rfl G.g_end_step G.k_end_step G.bi_end_step .nil pass0 (pa_cons (pv 0) pa_nil)))
  (pss_one (ps_ret (pv 1))))), ?_⟩
    refine ⟨_, rfl, x, wh, S, τ, rfl, hS, hl, fun H1 τ1 g1 S1 => ?_⟩
    exact ⟨_, rfl, x, wh, _, τ1, rfl, S1, fun H2 τ2 g2 S2 => ⟨_, rfl, k H2 τ2 (g1.trans g2) S2⟩⟩
end
end My
set_option Elab.async false
set_option linter.all false
set_option maxRecDepth 100000
set_option maxHeartbeats 4000000
namespace My
open PySem L2
local macro_rules | `(tactic| walk_at "ds") => `(tactic| dsimp only [tSeq, tIfS, tTest, tB, tAnd, tOr, tNot, tAndV, tOrV, tNotV, tIf, tIsN, tNotN, tOp, tUn, tChain, rI, rI0, rU, tC, tCB, tCons, tNil, tAsg, gName, gSub, tRet, tRetN, tNext, tDrop, tLst, tTup, rIxL, rIxT, rSetL, tVar, tFld, tCall, tDGet, tDIn, tDNotIn, tNever, L2.start, List.map, List.replicate, List.length, List.append, List.cons_append, List.nil_append, List.set, Nat.sub])
local macro_rules | `(tactic| walk_at "hp") => `(tactic| first | assumption | exact upd_same | (refine Eq.trans (upd_ne (by first | assumption | (apply Ne.symm; assumption))) ?_; walk_at "hp"))
local macro_rules | `(tactic| walk_at "sd") => `(tactic| first
  | (show (_ : Int) ≠ 0; omega)
  | (refine (show CDivN _ _ from ⟨?_, ?_⟩) <;> omega)
  | (show CPow _ _; refine ⟨by omega, by omega, by omega⟩)
  | (show CMul _ _; exact Or.inl ⟨by omega, by omega⟩)
  | (show CMul _ _; exact Or.inr ⟨by omega, by omega⟩))
local macro_rules | `(tactic| walk_at "st") => `(tactic| first
  | refine ⟨_, rfl, ?_⟩
  | refine ⟨_, _, rfl, rfl, (by walk_at "sd"), ?_⟩
  | refine ⟨_, _, rfl, rfl, ?_⟩
  | refine ⟨_, _, _, _, rfl, rfl, SqL.of (by walk_at "hp"), rfl, ?_⟩
  | refine ⟨_, _, _, _, rfl, rfl, (by walk_at "hp"), rfl, ?_⟩
  | refine .inl ⟨_, rfl, ?_⟩
  | refine ⟨_, _, _, _, _, rfl, (by walk_at "hp"), (by assumption), (by assumption), rfl, ?_⟩
  | refine ⟨_, _, rfl, .inl (SqL.of (by walk_at "hp")), ?_⟩)
local macro_rules | `(tactic| walk_at "go") => `(tactic| repeat (first | walk_at "st" | (walk_at "ds"; walk_at "st")))
local macro_rules | `(tactic| walk_at "ni") => `(tactic| dsimp (config := { proj := false }) only [tNil, List.cons_append, List.nil_append])
section
variable {P : Program} {w : World} {K : PySem.W.Frag} {mg : Str → Option Value} {base : Heap} {A : Adr}
variable {H : Hp} {x : Addr} {wh : Wh} {S : Sys} {τ : Tm} {i f c t : Int} {T : Tb} {Q : VK} {E : XK}
theorem only {i j : Int} {T T' : Tb} (e : S.tabs i = some T) (h1 : V.int i = V.int j) (h2 : S.tabs j = some T') : j = i ∧ T' = T := by
  have e1 := V.int.inj h1
  subst e1
  rw [e] at h2
  exact ⟨rfl, (Option.some.inj h2).symm⟩
theorem livg {i : Int} {T : Tb} {R : Prop} (e : S.tabs i = some T) (z : ∀ j, V.int i = V.int j → S.tabs j = none) : R := by
  have := z i rfl
  rw [e] at this
  cases this
theorem noR {lo hi i : Int} {R : Prop} (h0 : lo ≤ i) (h1 : i ≤ hi) (z : inR lo hi (.int i) = false) : R := by
  rw [inR_of h0 h1] at z
  cases z
/-- map_pages on arguments that are right: the source is told by what it says -/
theorem use_map {r : Str} {sh : Bool} {sov av : V} {s : Src} {ix : Int} (hS : Sr A H x wh S τ) (eT : S.tabs i = some T) (c0 : 1 ≤ c) (c1 : c ≤ 512) (hr : isW RTS (.str r) = true) (hs : srcR H sov s) (ho : ∀ j, s = .obj j → sh = true ∧ ∃ m, cntS S j m ≠ 0) (hf : ∀ n, s = .file n → S.fls n = true)
    (i0 : 0 ≤ ix) (in_ : s = .non → ix = 0) (i1 : s ≠ .non → ix ≤ 512 - c) (ha : AnyV H av) (hp : placeV (mpd T) c av = .int f) (f0 : 0 ≤ f) (f1 : f ≤ 512 - c) (so : sh = true → s = .non → S.o < 1000)
    (k : ∀ H' τ', Go τ H τ' H' → Sr A H' x wh (mapS S i T f c r sh s ix) τ' → Q (.int f) H') : spMap A [.ref x, .int i, .int c, .str r, .bl sh, sov, .int ix, av] H Q E := by
  have hv : AnyV H sov := by
    cases s with
    | non => cases hs; exact .non
    | file n => obtain ⟨a, rfl, e⟩ := hs; exact .tup e
    | obj j => obtain ⟨a, rfl, e⟩ := hs; exact .tup e
  refine ⟨x, wh, S, τ, .int i, .int c, .str r, .bl sh, sov, .int ix, av, rfl, hS, ⟨.int _, .int _, .str _, .bl _, hv, .int _, ha⟩, livg eT, fun i' T' e1 e2 => ?_⟩
  obtain ⟨rfl, rfl⟩ := only eT e1 e2
  refine ⟨noR c0 c1, fun c' ec _ _ => ?_⟩
  have e1 := V.int.inj ec
  subst e1
  refine ⟨fun z => absurd (hr.symm.trans z) (by decide), fun r' er _ => ?_⟩
  have e1 := V.str.inj er
  subst e1
  refine ⟨fun z => (nomatch z), fun sh' es => ?_⟩
  have e1 := V.bl.inj es
  subst e1
  have kk : ∀ s', s' = s → (inR 0 (if s' = .non then 0 else 512 - c) (.int ix) = false → Rz A.c_NoPages "part" (.str "index") H E) ∧ ∀ ix', V.int ix = .int ix' → 0 ≤ ix' → (s' = .non → ix' = 0) → (s' ≠ .non → ix' ≤ 512 - c) →
      (inR 0 (512 - c) (placeV (mpd T') c av) = false → Rz A.c_NoPages "part" (.str "at") H E) ∧ ∀ f', placeV (mpd T') c av = .int f' → 0 ≤ f' → f' ≤ 512 - c →
      (sh = true → s' = .non → S.o < 1000) ∧ ∀ H' τ', Go τ H τ' H' → Sr A H' x wh (mapS S i' T' f' c r sh s' ix') τ' → Q (.int f') H' := by
    rintro s' rfl
    refine ⟨fun z => ?_, fun ix' ei _ _ _ => ?_⟩
    · by_cases c : s' = .non
      · rw [if_pos c, in_ c] at z
        exact absurd z (by decide)
      · rw [if_neg c] at z
        exact noR i0 (i1 c) z
    · have e1 := V.int.inj ei
      subst e1
      rw [hp]
      refine ⟨noR f0 f1, fun f' ef _ _ => ?_⟩
      have e1 := V.int.inj ef
      subst e1
      exact ⟨so, k⟩
  refine ⟨fun e => ?_, fun z => ?_, fun a kd nm ea ht => ?_⟩
  · refine kk _ ?_
    cases s with
    | non => rfl
    | file n => obtain ⟨a, rfl, _⟩ := hs; cases e
    | obj j => obtain ⟨a, rfl, _⟩ := hs; cases e
  · cases s with
    | non => cases hs; exact absurd rfl z.1
    | file n => obtain ⟨a, rfl, e⟩ := hs; exact absurd ⟨a, _, _, rfl, e⟩ z.2
    | obj j => obtain ⟨a, rfl, e⟩ := hs; exact absurd ⟨a, _, _, rfl, e⟩ z.2
  · cases s with
    | non => cases hs; cases ea
    | file n =>
      obtain ⟨a', rfl, e⟩ := hs
      cases ea
      rw [e] at ht
      cases ht
      refine ⟨.str _, .str _, fun z => absurd z (by decide +kernel), fun _ => ⟨fun n' en _ => ?_, fun z => ?_⟩, fun z => absurd z (by decide +kernel)⟩
      · cases en
        exact kk _ rfl
      · have := z n rfl
        rw [hf n rfl] at this
        cases this
    | obj j =>
      obtain ⟨a', rfl, e⟩ := hs
      cases ea
      rw [e] at ht
      cases ht
      refine ⟨.str _, .int _, fun z => absurd z (by decide +kernel), fun z => absurd z (by decide +kernel), fun _ => ⟨fun j' ej _ _ => ?_, fun z => ?_⟩⟩
      · cases ej
        exact kk _ rfl
      · exact absurd ⟨(ho j rfl).1, j, rfl, (ho j rfl).2⟩ z
/-- unmap on arguments that are right -/
theorem use_unmap (hS : Sr A H x wh S τ) (eT : S.tabs i = some T) (f0 : 0 ≤ f) (f1 : f ≤ 511) (c0 : 1 ≤ c) (c1 : c ≤ 512 - f) (k : ∀ H' τ', Go τ H τ' H' → Sr A H' x wh (unmS S i T f c) τ' → Q .non H') : spUnmap A [.ref x, .int i, .int f, .int c] H Q E := by
  refine ⟨x, wh, S, τ, .int i, .int f, .int c, rfl, hS, ⟨.int _, .int _, .int _⟩, livg eT, fun i' T' e1 e2 => ?_⟩
  obtain ⟨rfl, rfl⟩ := only eT e1 e2
  refine ⟨noR f0 f1, fun f' ef _ _ => ?_⟩
  have e1 := V.int.inj ef
  subst e1
  refine ⟨noR c0 c1, fun c' ec _ _ => ?_⟩
  have e1 := V.int.inj ec
  subst e1
  exact k
end
end My
set_option Elab.async false
set_option linter.all false
set_option maxRecDepth 100000
set_option maxHeartbeats 4000000
namespace My
open PySem L2
local macro_rules | `(tactic| walk_at "ds") => `(tactic| dsimp only [tSeq, tIfS, tTest, tB, tAnd, tOr, tNot, tAndV, tOrV, tNotV, tIf, tIsN, tNotN, tOp, tUn, tChain, rI, rI0, rU, tC, tCB, tCons, tNil, tAsg, gName, gSub, tRet, tRetN, tNext, tDrop, tLst, tTup, rIxL, rIxT, rSetL, tVar, tFld, tCall, tDGet, tDIn, tDNotIn, tNever, L2.start, List.map, List.replicate, List.length, List.append, List.cons_append, List.nil_append, List.set, Nat.sub])
local macro_rules | `(tactic| walk_at "hp") => `(tactic| first | assumption | exact upd_same | (refine Eq.trans (upd_ne (by first | assumption | (apply Ne.symm; assumption))) ?_; walk_at "hp"))
local macro_rules | `(tactic| walk_at "sd") => `(tactic| first
  | (show (_ : Int) ≠ 0; omega)
  | (refine (show CDivN _ _ from ⟨?_, ?_⟩) <;> omega)
  | (show CPow _ _; refine ⟨by omega, by omega, by omega⟩)
  | (show CMul _ _; exact Or.inl ⟨by omega, by omega⟩)
  | (show CMul _ _; exact Or.inr ⟨by omega, by omega⟩))
local macro_rules | `(tactic| walk_at "st") => `(tactic| first
  | refine ⟨_, rfl, ?_⟩
  | refine ⟨_, _, rfl, rfl, (by walk_at "sd"), ?_⟩
  | refine ⟨_, _, rfl, rfl, ?_⟩
  | refine ⟨_, _, _, _, rfl, rfl, SqL.of (by walk_at "hp"), rfl, ?_⟩
  | refine ⟨_, _, _, _, rfl, rfl, (by walk_at "hp"), rfl, ?_⟩
  | refine .inl ⟨_, rfl, ?_⟩
  | refine ⟨_, _, _, _, _, rfl, (by walk_at "hp"), (by assumption), (by assumption), rfl, ?_⟩
  | refine ⟨_, _, rfl, .inl (SqL.of (by walk_at "hp")), ?_⟩)
local macro_rules | `(tactic| walk_at "go") => `(tactic| repeat (first | walk_at "st" | (walk_at "ds"; walk_at "st")))
local macro_rules | `(tactic| walk_at "ni") => `(tactic| dsimp (config := { proj := false }) only [tNil, List.cons_append, List.nil_append])
section
variable {P : Program} {w : World} {K : PySem.W.Frag} {mg : Str → Option Value} {base : Heap} {A : Adr}
def spGap (A : Adr) : Sp := fun vs H Q E => ∃ (x : Addr) (wh : Wh) (S : Sys) (τ : Tm) (cnt : Int → Int → Nat) (who cv : V), vs = [.ref x, who, cv] ∧ Sa A H x wh S τ cnt ∧ AnyV H who ∧ AnyV H cv ∧
  ((∀ i, who = .int i → S.tabs i = none) → Rz A.c_NoProcess "process" who H E) ∧ ∀ i T, who = .int i → S.tabs i = some T →
  (inR 1 512 cv = false → Rz A.c_NoPages "part" (.str "count") H E) ∧ ∀ c, cv = .int c → 1 ≤ c → c ≤ 512 → ∀ H', Same H H' → Q (fits (mpd T) c) H'
theorem ok_gap (G : Txt K mg A) : FnOk P w K mg base (L2.CX P w) 4 A.a_gap A.fd_gap p_gap (spGap A) := by
  refine G.f_gap.okX sc_gap (fun vs H Q E h => ?_) (fun cdv A' outer s H vs Q E hr h => ?_)
  · obtain ⟨x, wh, S, τ, cnt, who, cv, rfl, _⟩ := h
    rfl
  · obtain ⟨x, wh, S, τ, cnt, who, cv, rfl, hS, h1, h2, k1, k2⟩ := h
    refine ⟨_, (pss_cons (ps_set (i := 3) sc_gap.nd rfl (Or.inl rfl) (pe_call (ok_table_of G) (hr.mono (by decide)) rfl G.g_table_of G.k_table_of G.bi_table_of .nil (passes_call (takes_of rfl rfl rfl rfl) (fun _ _ _ _ z => z)) (pa_cons (pv 0) (pa_cons (pv 1) pa_nil))))
  (pss_cons (ps_expr (pe_call (ok_require G) (hr.mono (by decide)) rfl G.g_require G.k_require G.bi_require .nil (passes_call (takes_of rfl rfl rfl rfl) (fun _ _ _ _ z => z)) (pa_cons (pe_call (ok_is_integer G) (hr.mono (by decide)) rfl G.g_is_integer G.k_is_integer G.bi_is_integer .nil pass0 (pa_cons (pv 2) (pa_cons pe_int (pa_cons (pe_glob (v := .int 512) rfl G.g_PAGES ⟨_, rfl⟩) pa_nil)))) (pa_cons pe_str pa_nil))))
  (pss_one (ps_ret (pe_call (ok_lowest_gap G) (hr.mono (by decide)) rfl G.g_lowest_gap G.k_lowest_gap G.bi_lowest_gap .nil pass0 (pa_cons (pv 3) (pa_cons (pv 2) pa_nil))))))), ?_⟩
    refine ⟨_, rfl, _, rfl, x, wh, S, τ, _, who, rfl, hS, h1, fun i d e hd => ?_, k1⟩
    subst e
    obtain ⟨T, eT, _⟩ := hS.tab hd
    obtain ⟨bi, td, tkvs, tf, hdk, tdi, tpg⟩ := hS.tabE hd eT
    obtain ⟨k3, k4⟩ := k2 i T rfl eT
    refine ⟨_, rfl, cv, 1, 512, rfl, h2, inR 1 512 cv, _, rfl, fun z => ?_, k3⟩
    obtain ⟨c, rfl, c0, c1⟩ := inR_int z
    refine ⟨_, rfl, _, rfl, d, c, tkvs, mpd T, rfl, hdk, fun k => ?_, fun H' s => k4 c rfl c0 c1 H' s⟩
    rw [tdi.val]; exact (tpg k).isSome
/-- the longest row of free pages -/
def topN (f : Int → Bool) : Nat → Int
  | 0 => 0
  | n + 1 => if runN f (n + 1) > topN f n then runN f (n + 1) else topN f n
theorem topN_ge (f : Int → Bool) (n : Nat) : ∀ y ∈ runs f n, y ≤ topN f n := by
  induction n with
  | zero => intro y hy; cases hy
  | succ n ih =>
    intro y hy
    rw [runs_succ] at hy
    unfold topN
    rcases List.mem_append.mp hy with z | z
    · have := ih y z
      split <;> omega
    · rw [List.mem_singleton.mp z]
      split <;> omega
theorem topN_in (f : Int → Bool) (n : Nat) : topN f (n + 1) ∈ runs f (n + 1) := by
  induction n with
  | zero =>
    have := (runN_at f 1).1
    rw [runs_succ]
    unfold topN
    split
    · simp
    · have e : topN f 0 = runN f 1 := by show (0 : Int) = _; rename_i h; have : topN f 0 = 0 := rfl; rw [this] at h; simp only [Nat.zero_add] at *; omega
      simp [e]
  | succ n ih =>
    rw [runs_succ]
    conv => arg 2; unfold topN
    split
    · simp
    · exact List.mem_append_left _ ih
def spWide (A : Adr) : Sp := fun vs H Q E => ∃ (x : Addr) (wh : Wh) (S : Sys) (τ : Tm) (cnt : Int → Int → Nat) (who : V), vs = [.ref x, who] ∧ Sa A H x wh S τ cnt ∧ AnyV H who ∧
  ((∀ i, who = .int i → S.tabs i = none) → Rz A.c_NoProcess "process" who H E) ∧ ∀ i T, who = .int i → S.tabs i = some T → ∀ H', Same H H' → Q (.int (topN (mpd T) 512)) H'
theorem ok_widest (G : Txt K mg A) : FnOk P w K mg base (L2.CX P w) 4 A.a_widest A.fd_widest p_widest (spWide A) := by
  refine G.f_widest.okX sc_widest (fun vs H Q E h => ?_) (fun cdv A' outer s H vs Q E hr h => ?_)
  · obtain ⟨x, wh, S, τ, cnt, who, rfl, _⟩ := h
    rfl
  · obtain ⟨x, wh, S, τ, cnt, who, rfl, hS, h1, k1, k2⟩ := h
    refine ⟨_, (pss_one (ps_ret (pe_callB (cr_max rfl) (by rfl) G.b_max (by decide +kernel) (pa_cons (pe_call (ok_free_runs G) (hr.mono (by decide)) rfl G.g_free_runs G.k_free_runs G.bi_free_runs .nil pass0 (pa_cons (pe_call (ok_table_of G) (hr.mono (by decide)) rfl G.g_table_of G.k_table_of G.bi_table_of .nil (passes_call (takes_of rfl rfl rfl rfl) (fun _ _ _ _ z => z)) (pa_cons (pv 0) (pa_cons (pv 1) pa_nil))) pa_nil)) pa_nil)))), ?_⟩
    refine ⟨_, rfl, _, rfl, x, wh, S, τ, _, who, rfl, hS, h1, fun i d e hd => ?_, k1⟩
    subst e
    obtain ⟨T, eT, _⟩ := hS.tab hd
    obtain ⟨bi, td, tkvs, tf, hdk, tdi, tpg⟩ := hS.tabE hd eT
    refine ⟨d, tkvs, mpd T, rfl, hdk, fun k => ?_, fun q H1 s1 _ l1 => ?_⟩
    · rw [tdi.val]; exact (tpg k).isSome
    refine ⟨q, runs (mpd T) 512, rfl, SqL.of l1, by unfold runs; rw [List.length_map, List.length_range]; decide, fun m hm hb => ?_⟩
    have e : m = topN (mpd T) 512 := Int.le_antisymm (topN_ge (mpd T) 512 m hm) (hb _ (topN_in (mpd T) 511))
    rw [e]
    exact k2 i T rfl eT H1 s1
def spFits : Sp := fun vs H Q _ => ∃ (d : Addr) (c : Int) (kvs : List (Key × V)) (f : Int → Bool), vs = [.ref d, .int c] ∧ H d = some (.dK kvs) ∧ KS f kvs ∧ Q (fits f c) H
theorem ok__law_fits (G : Txt K mg A) : FnOk P w K mg base CX0 1 A.a__law_fits A.fd__law_fits p__law_fits spFits := by
  refine G.f__law_fits.ok sc__law_fits (fun vs H Q E h => ?_) (fun cdv A' outer s H vs Q E hr h => ?_)
  · obtain ⟨d, c, kvs, f, rfl, _⟩ := h
    rfl
  · obtain ⟨d, c, kvs, f, rfl, hd, hf, k⟩ := h
    refine ⟨_, (pss_cons (ps_set (i := 2) sc__law_fits.nd rfl (Or.inl rfl) pe_int)
  (pss_cons (ps_for PassesOwn.never rfl (pi_range1 rfl G.b_range (pa_cons pe_int pa_nil)) (pg_name (i := 3) sc__law_fits.nd rfl (Or.inl rfl)) (pss_cons (ps_set (i := 2) sc__law_fits.nd rfl (Or.inl rfl) (pe_op op_add (pv 2) pe_int))
  (pss_cons (ps_if (pt_cmp (pc_din (hu_of hr) (pv 3) (pv 0))) (pss_one (ps_set (i := 2) sc__law_fits.nd rfl (Or.inl rfl) pe_int)) pss_nil)
  (pss_one (ps_if (pt_cmpR op_eq (pv 2) (pv 1) (nomark _)) (pss_one (ps_ret (pe_op op_add (pe_op op_sub (pv 3) (pv 1)) pe_int))) pss_nil)))))
  (pss_one (ps_ret pe_non)))), ?_⟩
    refine ⟨512, rfl, by decide, by decide, for_range (lo := 0) (n := 512) (fun i σ H' => H' = H ∧ (∃ c3, σ = [some (.ref d), some (.int c), some (.int (runN f i)), c3]) ∧ ∀ j, j < i → runN f (j + 1) ≠ c)
      ⟨rfl, ⟨_, rfl⟩, fun j hj => by omega⟩ ?_ ?_⟩
    · rintro i σ H1 hi ⟨rfl, ⟨c3, rfl⟩, hb⟩
      have ei : (0 : Int) + (i : Nat) = (i : Int) := Int.zero_add _
      rw [ei]
      refine ⟨_, rfl, _, _, rfl, rfl, ?_⟩
      refine ⟨_, rfl, _, rfl, d, _, rfl, DGet.k (k := Sum.inl (i : Int)) hd, _, rfl, ?_⟩
      rw [hf]
      have hit : runN f (i + 1) = c → Q (.int ((i : Int) - c + 1)) H1 := fun e => by
        rw [← fits_at hi e hb]
        exact k
      have miss : runN f (i + 1) ≠ c → ∀ j, j < i + 1 → runN f (j + 1) ≠ c := fun e j hj => by
        by_cases z : j = i
        · rw [z]; exact e
        · exact hb j (by omega)
      cases cf : f (i : Int) with
      | true =>
        have er : (0 : Int) = runN f (i + 1) := by unfold runN; rw [if_pos cf]
        refine iteT ⟨_, rfl, _, rfl, rfl, _, rfl, iteB (fun e => ?_) (fun e => ?_)⟩
        · exact ⟨_, rfl, _, rfl, _, _, rfl, rfl, _, _, rfl, rfl, hit (er.symm.trans (V.int.inj (of_decide_eq_true e)))⟩
        · exact ⟨rfl, ⟨_, by rw [er]; rfl⟩, miss fun z => of_decide_eq_false e (by rw [← z, ← er])⟩
      | false =>
        have er : runN f i + 1 = runN f (i + 1) := by rw [runN, if_neg (by rw [cf]; exact Bool.false_ne_true)]
        refine iteF ⟨_, rfl, _, rfl, rfl, _, rfl, iteB (fun e => ?_) (fun e => ?_)⟩
        · exact ⟨_, rfl, _, rfl, _, _, rfl, rfl, _, _, rfl, rfl, hit (er.symm.trans (V.int.inj (of_decide_eq_true e)))⟩
        · exact ⟨rfl, ⟨_, by rw [← er]; rfl⟩, miss fun z => of_decide_eq_false e (by rw [← z, ← er])⟩
    · rintro σ H1 ⟨rfl, ⟨c3, rfl⟩, hb⟩
      rw [fits_no hb] at k
      exact k
def spTop : Sp := fun vs H Q _ => ∃ (d : Addr) (kvs : List (Key × V)) (f : Int → Bool), vs = [.ref d] ∧ H d = some (.dK kvs) ∧ KS f kvs ∧ Q (.int (topN f 512)) H
theorem ok__law_widest (G : Txt K mg A) : FnOk P w K mg base CX0 1 A.a__law_widest A.fd__law_widest p__law_widest spTop := by
  refine G.f__law_widest.ok sc__law_widest (fun vs H Q E h => ?_) (fun cdv A' outer s H vs Q E hr h => ?_)
  · obtain ⟨d, kvs, f, rfl, _⟩ := h
    rfl
  · obtain ⟨d, kvs, f, rfl, hd, hf, k⟩ := h
    refine ⟨_, (pss_cons (ps_set (i := 1) sc__law_widest.nd rfl (Or.inl rfl) pe_int)
  (pss_cons (ps_set (i := 2) sc__law_widest.nd rfl (Or.inl rfl) pe_int)
  (pss_cons (ps_for PassesOwn.never rfl (pi_range1 rfl G.b_range (pa_cons pe_int pa_nil)) (pg_name (i := 3) sc__law_widest.nd rfl (Or.inl rfl)) (pss_cons (ps_set (i := 2) sc__law_widest.nd rfl (Or.inl rfl) (pe_op op_add (pv 2) pe_int))
  (pss_cons (ps_if (pt_cmp (pc_din (hu_of hr) (pv 3) (pv 0))) (pss_one (ps_set (i := 2) sc__law_widest.nd rfl (Or.inl rfl) pe_int)) pss_nil)
  (pss_one (ps_set (i := 1) sc__law_widest.nd rfl (Or.inl rfl) (pe_callB (call_max2 rfl) (by rfl) G.b_max (by decide +kernel) (pa_cons (pv 1) (pa_cons (pv 2) pa_nil))))))))
  (pss_one (ps_ret (pv 1)))))), ?_⟩
    refine ⟨512, rfl, by decide, by decide, for_range (lo := 0) (n := 512) (fun i σ H' => H' = H ∧ ∃ c3, σ = [some (.ref d), some (.int (topN f i)), some (.int (runN f i)), c3])
      ⟨rfl, ⟨_, rfl⟩⟩ ?_ ?_⟩
    · rintro i σ H1 hi ⟨rfl, ⟨c3, rfl⟩⟩
      have ei : (0 : Int) + (i : Nat) = (i : Int) := Int.zero_add _
      rw [ei]
      refine ⟨_, rfl, _, _, rfl, rfl, ?_⟩
      refine ⟨_, rfl, _, rfl, d, _, rfl, DGet.k (k := Sum.inl (i : Int)) hd, _, rfl, ?_⟩
      rw [hf]
      cases cf : f (i : Int) with
      | true =>
        have er : (0 : Int) = runN f (i + 1) := by unfold runN; rw [if_pos cf]
        refine iteT ⟨_, rfl, _, rfl, _, _, rfl, rfl, some (.int (i : Int)), ?_⟩
        rw [er]
        rfl
      | false =>
        have er : runN f i + 1 = runN f (i + 1) := by rw [runN, if_neg (by rw [cf]; exact Bool.false_ne_true)]
        refine iteF ⟨_, rfl, _, rfl, _, _, rfl, rfl, some (.int (i : Int)), ?_⟩
        dsimp only [List.set]
        rw [er]
        rfl
    · rintro σ H1 ⟨rfl, ⟨c3, rfl⟩⟩
      exact ⟨_, rfl, k⟩
end
end My
set_option Elab.async false
set_option linter.all false
set_option maxRecDepth 100000
set_option maxHeartbeats 4000000
namespace My
open PySem L2
local macro_rules | `(tactic| walk_at "ds") => `(tactic| dsimp only [tSeq, tIfS, tTest, tB, tAnd, tOr, tNot, tAndV, tOrV, tNotV, tIf, tIsN, tNotN, tOp, tUn, tChain, rI, rI0, rU, tC, tCB, tCons, tNil, tAsg, gName, gSub, tRet, tRetN, tNext, tDrop, tLst, tTup, rIxL, rIxT, rSetL, tVar, tFld, tCall, tDGet, tDIn, tDNotIn, tNever, L2.start, List.map, List.replicate, List.length, List.append, List.cons_append, List.nil_append, List.set, Nat.sub])
local macro_rules | `(tactic| walk_at "hp") => `(tactic| first | assumption | exact upd_same | (refine Eq.trans (upd_ne (by first | assumption | (apply Ne.symm; assumption))) ?_; walk_at "hp"))
local macro_rules | `(tactic| walk_at "sd") => `(tactic| first
  | (show (_ : Int) ≠ 0; omega)
  | (refine (show CDivN _ _ from ⟨?_, ?_⟩) <;> omega)
  | (show CPow _ _; refine ⟨by omega, by omega, by omega⟩)
  | (show CMul _ _; exact Or.inl ⟨by omega, by omega⟩)
  | (show CMul _ _; exact Or.inr ⟨by omega, by omega⟩))
local macro_rules | `(tactic| walk_at "st") => `(tactic| first
  | refine ⟨_, rfl, ?_⟩
  | refine ⟨_, _, rfl, rfl, (by walk_at "sd"), ?_⟩
  | refine ⟨_, _, rfl, rfl, ?_⟩
  | refine ⟨_, _, _, _, rfl, rfl, SqL.of (by walk_at "hp"), rfl, ?_⟩
  | refine ⟨_, _, _, _, rfl, rfl, (by walk_at "hp"), rfl, ?_⟩
  | refine .inl ⟨_, rfl, ?_⟩
  | refine ⟨_, _, _, _, _, rfl, (by walk_at "hp"), (by assumption), (by assumption), rfl, ?_⟩
  | refine ⟨_, _, rfl, .inl (SqL.of (by walk_at "hp")), ?_⟩)
local macro_rules | `(tactic| walk_at "go") => `(tactic| repeat (first | walk_at "st" | (walk_at "ds"; walk_at "st")))
local macro_rules | `(tactic| walk_at "ni") => `(tactic| dsimp (config := { proj := false }) only [tNil, List.cons_append, List.nil_append])
def spWell : Sp := fun vs H Q _ => ∃ n : Int, vs = [.int n] ∧ ∀ (a : Addr) (H' : Hp), H a = none → Same H H' → WellAt H' a 0 → Q (.ref a) H'
def spDraw : Sp := fun vs H Q _ => ∃ (a : Addr) (m : Int) (B : Nat), vs = [.ref a, .int m] ∧ 0 < m ∧ m < 1000000 ∧ WellAt H a B ∧ B < 1000000000 ∧
  ∀ (d : Int) (H' : Hp), 0 ≤ d → d < m → But a H H' → WellAt H' a (B + 1) → Q (.int d) H'
def spOne (K : PySem.W.Frag) : Sp := fun vs H Q _ => ∃ (a l : Addr) (xs : List V) (B : Nat), vs = [.ref a, .ref l] ∧ H l = some (.lst xs) ∧ l ≠ a ∧ 0 < xs.length ∧ xs.length < 1000 ∧ WellAt H a B ∧ B < 1000000000 ∧
  ∀ (v : V) (H' : Hp), v ∈ xs → But a H H' → WellAt H' a (B + 1) → Q v H'
section
variable {P : Program} {w : World} {K : PySem.W.Frag} {mg : Str → Option Value} {base : Heap} {A : Adr}
theorem ok__law_well (G : Txt K mg A) : FnOk P w K mg base CX0 1 A.a__law_well A.fd__law_well p__law_well spWell := by
  refine G.f__law_well.ok sc__law_well (fun vs H Q E h => ?_) (fun cdv A' outer s H vs Q E hr h => ?_)
  · obtain ⟨n, rfl, _⟩ := h
    rfl
  · obtain ⟨n, rfl, k⟩ := h
    refine ⟨_, (pss_one (ps_ret (pe_lst (pa_cons (pe_op op_mul (pv 0) (pe_callTy call_int1 (by rfl) G.b_int (by decide +kernel) (pa_cons (pe_cmpR op_ge (pv 0) (pe_op op_pow pe_int pe_int) (nomark _)) pa_nil))) (pa_cons (pe_op op_modN (pe_callTy call_int1 (by rfl) G.b_int (by decide +kernel) (pa_cons (pv 0) pa_nil)) pe_int) (pa_cons pe_int pa_nil)))))), ?_⟩
    walk_at "go"
    walk_at "ds"
    refine .inr ⟨_, rfl, n, _, rfl, rfl, Or.inr (by split <;> decide), _, rfl, .inl ⟨_, rfl, _, _, rfl, rfl, by decide, by decide, fun p hp => ?_⟩⟩
    refine k p _ hp (Same.new hp) ⟨_, _, _, upd_same, ?_, (fm (by decide)).1, (fm (by decide)).2, Int.le_refl _, Int.le_refl _, by decide⟩
    by_cases c : (10 : Int) ^ Int.toNat 18 ≤ n
    · rw [decide_eq_true c, if_pos rfl, Int.mul_one]
      exact Int.le_trans (by decide) c
    · rw [decide_eq_false c, if_neg Bool.false_ne_true, Int.mul_zero]
      exact Int.le_refl _
theorem ok__law_draw (G : Txt K mg A) : FnOk P w K mg base CX0 1 A.a__law_draw A.fd__law_draw p__law_draw spDraw := by
  refine G.f__law_draw.ok sc__law_draw (fun vs H Q E h => ?_) (fun cdv A' outer s H vs Q E hr h => ?_)
  · obtain ⟨a, m, B, rfl, _⟩ := h
    rfl
  · obtain ⟨a, m, B, rfl, hm0, hm1, ⟨w0, w1, w2, hw, h0, h1, h1', h2, h2', hB⟩, hB', k⟩ := h
    refine ⟨_, (pss_cons (ps_if (pt_cmpR op_gt (pe_ix ix_list (pv 0) pe_int (fun _ _ => rfl)) pe_int (nomark _)) (pss_cons (ps_set (i := 2) sc__law_draw.nd rfl (Or.inl rfl) (pe_op op_modN (pe_callTy call_int1 (by rfl) G.b_int (by decide +kernel) (pa_cons (pe_ix ix_list (pv 0) pe_int (fun _ _ => rfl)) pa_nil)) (pv 1)))
  (pss_cons (ps_asg (pe_op op_fdivN (pe_ix ix_list (pv 0) pe_int (fun _ _ => rfl)) (pv 1)) (pg_sub (pv 0) pe_int set_list))
  (pss_one (ps_ret (pv 2))))) pss_nil)
  (pss_cons (ps_asg (pe_op op_add (pe_ix ix_list (pv 0) pe_int (fun _ _ => rfl)) pe_int) (pg_sub (pv 0) pe_int set_list))
  (pss_cons (ps_set (i := 3) sc__law_draw.nd rfl (Or.inl rfl) (pe_ix ix_list (pe_lst (pa_cons pe_int (pa_cons pe_int (pa_cons pe_int (pa_cons pe_int (pa_cons pe_int (pa_cons pe_int (pa_cons pe_int pa_nil)))))))) (pe_op op_modN (pe_callTy call_int1 (by rfl) G.b_int (by decide +kernel) (pa_cons (pe_ix ix_list (pv 0) pe_int (fun _ _ => rfl)) pa_nil)) pe_int) (fun _ _ => rfl)))
  (pss_cons (ps_set (i := 4) sc__law_draw.nd rfl (Or.inl rfl) (pe_op op_modN (pe_callTy call_int1 (by rfl) G.b_int (by decide +kernel) (pa_cons (pe_op op_pow (pe_op op_add (pe_op op_add (pe_ix ix_list (pv 0) pe_int (fun _ _ => rfl)) (pe_op op_mul pe_int (pe_ix ix_list (pv 0) pe_int (fun _ _ => rfl)))) pe_int) pe_int) pa_nil)) (pv 3)))
  (pss_cons (ps_set (i := 4) sc__law_draw.nd rfl (Or.inl rfl) (pe_op op_modN (pe_callTy call_int1 (by rfl) G.b_int (by decide +kernel) (pa_cons (pe_op op_mul (pe_op op_add (pv 4) (pe_ix ix_list (pv 0) pe_int (fun _ _ => rfl))) (pe_op op_add (pe_op op_fdivN (pv 4) pe_int) pe_int)) pa_nil)) (pv 3)))
  (pss_one (ps_ret (pe_op op_modN (pe_callTy call_int1 (by rfl) G.b_int (by decide +kernel) (pa_cons (pe_op op_fdivN (pv 4) pe_int) pa_nil)) (pv 1))))))))), ?_⟩
    walk_at "go"
    refine iteD (fun c => ?_) (fun c => ?_)
    · walk_at "go"
      have e1 := fm (x := w0) hm0
      have e2 := fdv hm0 h0
      refine k _ _ e1.1 e1.2 (fun b o hb ho => by rw [upd_ne hb]; exact ho) ⟨_, _, _, upd_same, e2.1, h1, h1', h2, by omega, by omega⟩
    · walk_at "go"
      walk_at "ds"
      refine ⟨by decide, fun p hp => ?_⟩
      obtain ⟨npa, hp0⟩ := upd_none hp
      walk_at "go"
      try walk_at "ds"
      have e7 := fm (x := w2 + 1) (m := 7) (by decide)
      obtain ⟨v, hv, hv1, hv2⟩ := at7 e7.1 e7.2
      refine ⟨_, _, _, _, rfl, rfl, SqL.of upd_same, hv, ?_⟩
      walk_at "go"
      have e1 := fm (x := (w1 + 7919 * (w2 + 1) + 1) ^ Int.toNat 5) (m := v) (by omega)
      generalize ((w1 + 7919 * (w2 + 1) + 1) ^ Int.toNat 5).fmod v = n1 at *
      refine ⟨Or.inl ⟨by omega, by omega⟩, ?_⟩
      walk_at "go"
      refine k _ _ (fm hm0).1 (fm hm0).2 (fun b o hb ho => ?_) ⟨_, _, _, Eq.trans (upd_ne (Ne.symm npa)) upd_same, h0, h1, h1', by omega, by omega, by omega⟩
      rw [upd_ne (ne_of_none ho hp0), upd_ne hb]
      exact ho
theorem ok__law_one (G : Txt K mg A) : FnOk P w K mg base CX0 2 A.a__law_one A.fd__law_one p__law_one (spOne K) := by
  refine G.f__law_one.ok sc__law_one (fun vs H Q E h => ?_) (fun cdv A' outer s H vs Q E hr h => ?_)
  · obtain ⟨a, l, xs, B, rfl, _⟩ := h
    rfl
  · obtain ⟨a, l, xs, B, rfl, hl, hne, hx0, hx1, hw, hB, k⟩ := h
    refine ⟨_, (pss_one (ps_ret (pe_ix ix_list (pv 1) (pe_call (ok__law_draw G) (hr.mono (by decide)) rfl G.g__law_draw G.k__law_draw G.bi__law_draw .nil pass0 (pa_cons (pv 0) (pa_cons (pe_callB call_len_seq (by rfl) G.b_len (by decide +kernel) (pa_cons (pv 1) pa_nil)) pa_nil))) (fun _ _ => rfl)))), ?_⟩
    walk_at "go"
    refine ⟨a, xs.length, B, rfl, by omega, by omega, hw, hB, fun d H' d0 d1 kp hw' => ?_⟩
    obtain ⟨v, hv, hm⟩ := atI_in d0 d1
    exact ⟨_, _, _, _, rfl, rfl, SqL.of (kp _ _ hne hl), hv, k v H' hm kp hw'⟩
end
end My
set_option Elab.async false
set_option linter.all false
set_option maxRecDepth 100000
set_option maxHeartbeats 4000000
namespace My
open PySem L2
local macro_rules | `(tactic| walk_at "ds") => `(tactic| dsimp only [tSeq, tIfS, tTest, tB, tAnd, tOr, tNot, tAndV, tOrV, tNotV, tIf, tIsN, tNotN, tOp, tUn, tChain, rI, rI0, rU, tC, tCB, tCons, tNil, tAsg, gName, gSub, tRet, tRetN, tNext, tDrop, tLst, tTup, rIxL, rIxT, rSetL, tVar, tFld, tCall, tDGet, tDIn, tDNotIn, tNever, L2.start, List.map, List.replicate, List.length, List.append, List.cons_append, List.nil_append, List.set, Nat.sub])
local macro_rules | `(tactic| walk_at "hp") => `(tactic| first | assumption | exact upd_same | (refine Eq.trans (upd_ne (by first | assumption | (apply Ne.symm; assumption))) ?_; walk_at "hp"))
local macro_rules | `(tactic| walk_at "sd") => `(tactic| first
  | (show (_ : Int) ≠ 0; omega)
  | (refine (show CDivN _ _ from ⟨?_, ?_⟩) <;> omega)
  | (show CPow _ _; refine ⟨by omega, by omega, by omega⟩)
  | (show CMul _ _; exact Or.inl ⟨by omega, by omega⟩)
  | (show CMul _ _; exact Or.inr ⟨by omega, by omega⟩))
local macro_rules | `(tactic| walk_at "st") => `(tactic| first
  | refine ⟨_, rfl, ?_⟩
  | refine ⟨_, _, rfl, rfl, (by walk_at "sd"), ?_⟩
  | refine ⟨_, _, rfl, rfl, ?_⟩
  | refine ⟨_, _, _, _, rfl, rfl, SqL.of (by walk_at "hp"), rfl, ?_⟩
  | refine ⟨_, _, _, _, rfl, rfl, (by walk_at "hp"), rfl, ?_⟩
  | refine .inl ⟨_, rfl, ?_⟩
  | refine ⟨_, _, _, _, _, rfl, (by walk_at "hp"), (by assumption), (by assumption), rfl, ?_⟩
  | refine ⟨_, _, rfl, .inl (SqL.of (by walk_at "hp")), ?_⟩)
local macro_rules | `(tactic| walk_at "go") => `(tactic| repeat (first | walk_at "st" | (walk_at "ds"; walk_at "st")))
local macro_rules | `(tactic| walk_at "ni") => `(tactic| dsimp (config := { proj := false }) only [tNil, List.cons_append, List.nil_append])
@[irreducible] def spDrawI : Sp := spDraw
@[irreducible] def spOneI (K : PySem.W.Frag) : Sp := spOne K
theorem drawI {vs : List V} {H : Hp} {Q : VK} {E : XK} (h : spDraw vs H Q E) : spDrawI vs H Q E := by
  unfold spDrawI
  exact h
theorem oneI {K : PySem.W.Frag} {vs : List V} {H : Hp} {Q : VK} {E : XK} (h : spOne K vs H Q E) : spOneI K vs H Q E := by
  unfold spOneI
  exact h
section
variable {P : Program} {w : World} {K : PySem.W.Frag} {mg : Str → Option Value} {base : Heap} {A : Adr}
theorem ok__law_drawI (G : Txt K mg A) : FnOk P w K mg base CX0 1 A.a__law_draw A.fd__law_draw p__law_draw spDrawI := by
  unfold spDrawI
  exact ok__law_draw G
theorem ok__law_oneI (G : Txt K mg A) : FnOk P w K mg base CX0 2 A.a__law_one A.fd__law_one p__law_one (spOneI K) := by
  unfold spOneI
  exact ok__law_one G
end
end My
set_option Elab.async false
set_option linter.all false
set_option maxRecDepth 100000
set_option maxHeartbeats 4000000
namespace My
open PySem L2
local macro_rules | `(tactic| walk_at "ds") => `(tactic| dsimp only [tSeq, tIfS, tTest, tB, tAnd, tOr, tNot, tAndV, tOrV, tNotV, tIf, tIsN, tNotN, tOp, tUn, tChain, rI, rI0, rU, tC, tCB, tCons, tNil, tAsg, gName, gSub, tRet, tRetN, tNext, tDrop, tLst, tTup, rIxL, rIxT, rSetL, tVar, tFld, tCall, tDGet, tDIn, tDNotIn, tNever, L2.start, List.map, List.replicate, List.length, List.append, List.cons_append, List.nil_append, List.set, Nat.sub])
local macro_rules | `(tactic| walk_at "hp") => `(tactic| first | assumption | exact upd_same | (refine Eq.trans (upd_ne (by first | assumption | (apply Ne.symm; assumption))) ?_; walk_at "hp"))
local macro_rules | `(tactic| walk_at "sd") => `(tactic| first
  | (show (_ : Int) ≠ 0; omega)
  | (refine (show CDivN _ _ from ⟨?_, ?_⟩) <;> omega)
  | (show CPow _ _; refine ⟨by omega, by omega, by omega⟩)
  | (show CMul _ _; exact Or.inl ⟨by omega, by omega⟩)
  | (show CMul _ _; exact Or.inr ⟨by omega, by omega⟩))
local macro_rules | `(tactic| walk_at "st") => `(tactic| first
  | refine ⟨_, rfl, ?_⟩
  | refine ⟨_, _, rfl, rfl, (by walk_at "sd"), ?_⟩
  | refine ⟨_, _, rfl, rfl, ?_⟩
  | refine ⟨_, _, _, _, rfl, rfl, SqL.of (by walk_at "hp"), rfl, ?_⟩
  | refine ⟨_, _, _, _, rfl, rfl, (by walk_at "hp"), rfl, ?_⟩
  | refine .inl ⟨_, rfl, ?_⟩
  | refine ⟨_, _, _, _, _, rfl, (by walk_at "hp"), (by assumption), (by assumption), rfl, ?_⟩
  | refine ⟨_, _, rfl, .inl (SqL.of (by walk_at "hp")), ?_⟩)
local macro_rules | `(tactic| walk_at "go") => `(tactic| repeat (first | walk_at "st" | (walk_at "ds"; walk_at "st")))
local macro_rules | `(tactic| walk_at "ni") => `(tactic| dsimp (config := { proj := false }) only [tNil, List.cons_append, List.nil_append])
section
variable {P : Program} {w : World} {K : PySem.W.Frag} {mg : Str → Option Value} {base : Heap} {A : Adr}
theorem init_binds (G : Txt K mg A) : ∃ ds, Vals (kw_System_init.map (·.2)) ds ∧ L2.Binds K A.fd_System_init p_System_init ds := by
  refine G.f_System_init.binds0 1 (by decide) rfl fun D doc pm an cdv ct us ks h1 h2 => ?_
  match us, h1, ks, h2 with
  | [u], _, [a, b, c], _ =>
    exact ⟨_, _, _, _, _, _, rfl, rfl, _, _, _, _, _, _, rfl, rfl, _, _, _, _, _, _, rfl, rfl, rfl⟩
theorem map_binds (G : Txt K mg A) : ∃ ds, Vals (kw_map_pages.map (·.2)) ds ∧ L2.Binds K A.fd_map_pages p_map_pages ds := by
  refine G.f_map_pages.binds0 3 (by decide) rfl fun D doc pm an cdv ct us ks h1 h2 => ?_
  match us, h1, ks, h2 with
  | [u1, u2, u3], _, [a, b, c, d, e], _ =>
    exact ⟨_, _, _, _, _, _, rfl, rfl, _, _, _, _, _, _, rfl, rfl, _, _, _, _, _, _, rfl, rfl, _, _, _, _, _, _, rfl, rfl, _, _, _, _, _, _, rfl, rfl, rfl⟩
/-- map_pages(.., at =) -/
theorem map_ka (G : Txt K mg A) : ∃ mv : List Value, KBn K A.fd_map_pages p_map_pages 3 ["at"] (fun us ws => us ++ mv ++ ws) (fun vs zs => vs ++ [V.str "rw", V.bl false, V.non, V.int 0] ++ zs) := by
  refine G.f_map_pages.kbinds0 3 ["at"] [("rights", .str "rw"), ("shared", .bl false), ("source", .non), ("index", .int 0)] (fun us mv ws => us ++ mv ++ ws) (by decide) (by simp) (fun r1 r2 r3 => (r1.append r2).append r3) fun D doc pm an cdv ct us mv ws h1 h2 h3 => ?_
  match us, h1, mv, h2, ws, h3 with
  | [u1, u2, u3], _, [a, b, c, d], _, [e], _ => exact ⟨_, _, _, _, _, _, rfl, rfl, _, _, _, _, _, _, rfl, rfl, _, _, _, _, _, _, rfl, rfl, _, _, _, _, _, _, rfl, rfl, rfl⟩
end
def qL : Str := (PyProof.Rows.envOfC "law" (defScope s_law) 0 0 .none).qual ++ "<lambda>"
def qR : Str := (PyProof.Rows.envOfC "_law_refused" (defScope s__law_refused) 0 0 .none).qual ++ "<lambda>"
def TS (A : Adr) : List (Addr × Str) := [(A.ta_law, qL), (A.ta__law_refused, qR)]
structure Tb2 (base : Heap) (mg : Str → Option Value) (A : Adr) : Prop where
  l : LamX.TabB base mg A.co_law A.ta_law
  r : LamX.TabB base mg A.co__law_refused A.ta__law_refused
  ne : A.ta_law ≠ A.ta__law_refused
theorem TS_l {base : Heap} {mg : Str → Option Value} {A : Adr} (T : Tb2 base mg A) : ∀ p ∈ TS A, p.1 = A.ta_law → p.2 = qL := fun p hp e => by
  rcases List.mem_cons.mp hp with h | h
  · rw [h]
  · rw [List.mem_singleton.mp h] at e
    exact absurd e.symm T.ne
theorem TS_r {base : Heap} {mg : Str → Option Value} {A : Adr} (T : Tb2 base mg A) : ∀ p ∈ TS A, p.1 = A.ta__law_refused → p.2 = qR := fun p hp e => by
  rcases List.mem_cons.mp hp with h | h
  · rw [h] at e
    exact absurd e T.ne
  · rw [List.mem_singleton.mp h]
def Frm (a : Addr) (H H' : Hp) : Prop := ∀ b o, b ≠ a → H b = some o → (∀ ps, o ≠ .tbl ps) → H' b = some o
section
variable {a : Addr} {H H1 H2 : Hp}
theorem Frm.trans (x : Frm a H H1) (y : Frm a H1 H2) : Frm a H H2 := fun b o n e t => y b o n (x b o n e t) t
theorem Frm.same (x : Same H H1) : Frm a H H1 := fun b o _ e _ => x b o e
theorem Frm.ext (x : LamX.ExtN H H1) : Frm a H H1 := fun b o _ e t => x b o e t
theorem Frm.but (x : But a H H1) : Frm a H H1 := fun b o n e _ => x b o n e
theorem Frm.refl : Frm a H H := fun b o _ e _ => e
end
theorem tabs_but {T : List (Addr × Str)} {H H' : Hp} {a : Addr} {xs : List V} (t : LamX.Tabs T H) (h : But a H H') (ha : H a = some (.lst xs)) : LamX.Tabs T H' :=
  Tabs.keep t fun b o e => ⟨fun u q => h b o (fun z => by rw [z, ha, q] at e; cases e) e, fun ps q => h b o (fun z => by rw [z, ha, q] at e; cases e) e⟩
theorem AnyV.frm {H H' : Hp} {v : V} {a : Addr} (h : AnyV H v) (n : v ≠ .ref a) (e : Frm a H H') : AnyV H' v := by
  cases h with
  | non => exact .non
  | bl b => exact .bl b
  | int i => exact .int i
  | str x => exact .str x
  | lst z => exact .lst (e _ _ (fun q => n (by rw [q])) z (fun _ q => by cases q))
  | tup z => exact .tup (e _ _ (fun q => n (by rw [q])) z (fun _ q => by cases q))
  | dK z => exact .dK (e _ _ (fun q => n (by rw [q])) z (fun _ q => by cases q))
theorem takes_len {X : Cx} {W : WX} (tk : Takes X W) : Takes X (fun c d σ H => σ.length = X.N.length → W c d σ H) := fun u s' air => by
  obtain ⟨a, B, sI, pins, σ, H, cls, d, e, I, nb, up, sky, na, os, ag, w⟩ := air
  exact tk u s' ⟨a, B, sI, pins, σ, H, cls, d, e, I, nb, up, sky, na, os, ag, w I.len⟩
/-- how an error of one field is told -/
def ToldBy (C : Addr) (f tag : Str) (Q : VK) (cls : Value) (d : Option Addr) (H : Hp) : Prop :=
  cls = .ref C ∧ ∃ (dd : Addr) (y : V), d = some dd ∧ H dd = some (.xd [(f, y)]) ∧ ∀ p, H p = none → Q (.ref p) (upd H p (.tup [.str tag, y]))
def Told4 (A : Adr) (Q : VK) (cls : Value) (d : Option Addr) (H : Hp) : Prop :=
  ToldBy A.c_NoPages "part" "part" Q cls d H ∨ ToldBy A.c_NoProcess "process" "process" Q cls d H
def TTs (A : Adr) : (XK → Hp → VK → Prop) → Hp → VK → Prop := fun tl H Q => tl (fun cls d H' => Told4 A Q cls d H') H Q
section
variable {X : Cx} {A : Adr}
theorem said_gives {q : Str} {cdg : Value} (G : Txt X.K X.mg A) : LamX.GivesTo X n__law_said "_law_said" (defScope s__law_said) A.a__law_said cdg (defBody s__law_said) "ask" q (TTs A) := by
  intro f c' s H Q tl act hc h
  let Y : Cx := (cxOf C8.CX0 X.prog X.w X.K X.mg X.base n__law_said "_law_said" (defScope s__law_said) A.a__law_said cdg X.A X.stack s H C8.E0).nox
  refine ⟨_, pss_one (ps_try_cls (X := Y) (l := [(.ref A.c_NoPages, some 1, fun a cls d => tRet (tTup (tCons (tC (.str "part")) (tCons (tXf a cls d A.c_NoPages "part" (tVar 1)) tNil)))),
        (.ref A.c_NoProcess, some 1, fun a cls d => tRet (tTup (tCons (tC (.str "process")) (tCons (tXf a cls d A.c_NoProcess "process" (tVar 1)) tNil)))),
        (.ref A.c_PageError, none, fun _ _ _ => tRet (tTup (tCons (tC (.str "other")) (tCons (tC .non) tNil))))])
      (tb := fun W D σ H => ∃ Ech : XK, (∀ cls d σ' H', Ech cls d H' → σ'.length = n__law_said.length → W cls d σ' H') ∧ σ[0]? = some (some (.ref f)) ∧ H c' = some (LamX.CodeO c' q) ∧ tl Ech H D.rt)
      rfl rfl sc__law_said.nd takes0 (fun W pn xe tk _ => ?_)
      (.named ⟨rfl, by decide, .inl G.g_NoPages⟩ rfl rfl (fun a oe cls d pn hz hf => pss_one (ps_ret (pe_tup (pa_cons pe_str (pa_cons (pe_xf G.xf_NoPages G.xn_NoPages hz hf (pv 1)) pa_nil)))))
      (.named ⟨rfl, by decide, .inl G.g_NoProcess⟩ rfl rfl (fun a oe cls d pn hz hf => pss_one (ps_ret (pe_tup (pa_cons pe_str (pa_cons (pe_xf G.xf_NoProcess G.xn_NoProcess hz hf (pv 1)) pa_nil)))))
      (.bare ⟨rfl, by decide, .inl G.g_PageError⟩ (fun a oe cls d pn hz hf => pss_one (ps_ret (pe_tup (pa_cons pe_str (pa_cons pe_non pa_nil))))) .nil)))), ?_⟩
  · refine ⟨fun pins s' σ H' D I h' => ?_⟩
    obtain ⟨Ech, hW, h1, h2, h3⟩ := h'
    exact (pss_one (ps_ret (act (fun c d σ H => σ.length = n__law_said.length → W c d σ H) pn xe Ech _ _ (takes_len tk) hW))).run pins s' σ H' D I ⟨h1, h2, h3⟩
  · refine ⟨_, fun cls d σ' H' hE hl => ?_, rfl, hc, h⟩
    have hl2 : 1 < σ'.length := by rw [hl]; decide
    rcases hE with ⟨rfl, dd, y, rfl, hd, k⟩ | ⟨rfl, dd, y, rfl, hd, k⟩
    · refine ⟨true, G.e_NoPages_NoPages, fun _ a ha => ?_, fun z => (nomatch z)⟩
      refine ⟨.ref a, List.getElem?_set_self hl2, rfl, rfl, dd, _, y, rfl, hd, ?_, (by show 2 ≤ sizeLine; decide), fun p hp => k p hp⟩
      simp [List.lookup]
    · refine ⟨false, G.e_NoProcess_NoPages, fun z => (nomatch z), fun _ => ⟨true, G.e_NoProcess_NoProcess, fun _ a ha => ?_, fun z => (nomatch z)⟩⟩
      refine ⟨.ref a, List.getElem?_set_self hl2, rfl, rfl, dd, _, y, rfl, hd, ?_, (by show 2 ≤ sizeLine; decide), fun p hp => k p hp⟩
      simp [List.lookup]
end
end My
set_option Elab.async false
set_option linter.all false
set_option maxRecDepth 100000
set_option maxHeartbeats 4000000
namespace My
open PySem L2
local macro_rules | `(tactic| walk_at "ds") => `(tactic| dsimp only [tSeq, tIfS, tTest, tB, tAnd, tOr, tNot, tAndV, tOrV, tNotV, tIf, tIsN, tNotN, tOp, tUn, tChain, rI, rI0, rU, tC, tCB, tCons, tNil, tAsg, gName, gSub, tRet, tRetN, tNext, tDrop, tLst, tTup, rIxL, rIxT, rSetL, tVar, tFld, tCall, tDGet, tDIn, tDNotIn, tNever, L2.start, List.map, List.replicate, List.length, List.append, List.cons_append, List.nil_append, List.set, Nat.sub])
local macro_rules | `(tactic| walk_at "hp") => `(tactic| first | assumption | exact upd_same | (refine Eq.trans (upd_ne (by first | assumption | (apply Ne.symm; assumption))) ?_; walk_at "hp"))
local macro_rules | `(tactic| walk_at "sd") => `(tactic| first
  | (show (_ : Int) ≠ 0; omega)
  | (refine (show CDivN _ _ from ⟨?_, ?_⟩) <;> omega)
  | (show CPow _ _; refine ⟨by omega, by omega, by omega⟩)
  | (show CMul _ _; exact Or.inl ⟨by omega, by omega⟩)
  | (show CMul _ _; exact Or.inr ⟨by omega, by omega⟩))
local macro_rules | `(tactic| walk_at "st") => `(tactic| first
  | refine ⟨_, rfl, ?_⟩
  | refine ⟨_, _, rfl, rfl, (by walk_at "sd"), ?_⟩
  | refine ⟨_, _, rfl, rfl, ?_⟩
  | refine ⟨_, _, _, _, rfl, rfl, SqL.of (by walk_at "hp"), rfl, ?_⟩
  | refine ⟨_, _, _, _, rfl, rfl, (by walk_at "hp"), rfl, ?_⟩
  | refine .inl ⟨_, rfl, ?_⟩
  | refine ⟨_, _, _, _, _, rfl, (by walk_at "hp"), (by assumption), (by assumption), rfl, ?_⟩
  | refine ⟨_, _, rfl, .inl (SqL.of (by walk_at "hp")), ?_⟩)
local macro_rules | `(tactic| walk_at "go") => `(tactic| repeat (first | walk_at "st" | (walk_at "ds"; walk_at "st")))
local macro_rules | `(tactic| walk_at "ni") => `(tactic| dsimp (config := { proj := false }) only [tNil, List.cons_append, List.nil_append])
structure St3 (A : Adr) (a x : Addr) (wh : Wh) (H : Hp) (S : Sys) (τ : Tm) (B : Nat) : Prop where
  tb : LamX.Tabs (TS A) H
  wl : WellAt H a B
  sy : Sr A H x wh S τ
  ta : τ a = none
theorem kp_frm {CS CP CH : Addr} {H H' : Hp} {a x : Addr} {w : Wh} {S : Sys} {τ : Tm} {cnt : Int → Int → Nat} {xs : List V} (h : SyA CS CP CH H x w S τ cnt) (ta : τ a = none) (ha : H a = some (.lst xs)) (f : Frm a H H') : Kp τ H H' := fun b o e c => by
  refine f b o (fun z => ?_) e (fun ps z => ?_)
  · rcases c with c | c
    · exact c (by rw [z]; exact ta)
    · rw [z, ha] at e; cases e; cases c
  · subst z
    rcases c with c | c
    · cases eg : τ b with
      | none => exact c eg
      | some g =>
        rcases h.own b g eg with q | ⟨o', q1, q2⟩
        · rw [q, h.hx] at e; cases e
        · rw [e] at q1; cases q1; cases q2
    · cases c
section
variable {A : Adr} {a x : Addr} {wh : Wh} {H H' : Hp} {S : Sys} {τ : Tm} {B B' : Nat}
theorem St3.frm (h : St3 A a x wh H S τ B) (f : Frm a H H') (w : WellAt H' a B') (t : LamX.Tabs (TS A) H') : St3 A a x wh H' S τ B' := by
  obtain ⟨xs, hx⟩ := h.wl.lst
  exact ⟨t, w, h.sy.keep (kp_frm h.sy h.ta hx f), h.ta⟩
theorem St3.same (h : St3 A a x wh H S τ B) (s : Same H H') : St3 A a x wh H' S τ B := by
  obtain ⟨xs, hx⟩ := h.wl.lst
  exact h.frm (Frm.same s) (h.wl.same ((s _ _ hx).trans hx.symm)) (h.tb.ext s)
theorem St3.ext (h : St3 A a x wh H S τ B) (e : LamX.ExtN H H') (t : LamX.Tabs (TS A) H') : St3 A a x wh H' S τ B := by
  obtain ⟨xs, hx⟩ := h.wl.lst
  exact h.frm (Frm.ext e) (h.wl.same ((e _ _ hx (fun _ z => by cases z)).trans hx.symm)) t
theorem St3.draw (h : St3 A a x wh H S τ B) (e : But a H H') (w : WellAt H' a B') : St3 A a x wh H' S τ B' := by
  obtain ⟨xs, hx⟩ := h.wl.lst
  exact h.frm (Frm.but e) w (tabs_but h.tb e hx)
theorem St3.mono (h : St3 A a x wh H S τ B) (e : B ≤ B') (e2 : B' ≤ 1000000) : St3 A a x wh H S τ B' := ⟨h.tb, h.wl.mono e (by omega), h.sy, h.ta⟩
theorem St3.go {S' : Sys} {τ' : Tm} (h : St3 A a x wh H S τ B) (g : Go τ H τ' H') (s : Sr A H' x wh S' τ') : St3 A a x wh H' S' τ' B := by
  obtain ⟨xs, hx⟩ := h.wl.lst
  refine ⟨Tabs.keep h.tb fun b o e => ?_, h.wl.same ((g.fr _ _ h.ta hx).trans hx.symm), s, ?_⟩
  · have tn : (∀ o', H b = some o' → isBox o' = false → (∀ C d fs, o' ≠ .ins C d fs) → τ b = none) := fun o' e' n1 n2 => by
      cases eg : τ b with
      | none => rfl
      | some t =>
        rcases h.sy.own b t eg with q | ⟨o2, q1, q2⟩
        · rw [q, h.sy.hx] at e'; cases e'; exact absurd rfl (n2 _ _ _)
        · rw [e'] at q1; cases q1; rw [n1] at q2; cases q2
    exact ⟨fun u q => g.fr b o (tn o e (by rw [q]; rfl) (by rw [q]; intro C d fs z; cases z)) e, fun ps q => g.fr b o (tn o e (by rw [q]; rfl) (by rw [q]; intro C d fs z; cases z)) e⟩
  · rcases g.ex a with z | z
    · exact z.trans h.ta
    · rw [hx] at z; cases z.2
end
def RzD (A : Adr) (t : Str) (y : V) (H : Hp) (E : XK) : Prop := (t = "process" → Rz A.c_NoProcess "process" y H E) ∧ (t = "part" → Rz A.c_NoPages "part" y H E)
section
variable {K : PySem.W.Frag} {A : Adr} {a x : Addr} {wh : Wh} {H : Hp} {S : Sys} {τ : Tm} {B B' : Nat} {T : Tb}
/-- an error that is told and compared with what is due -/
theorem told_St {t' : XK → TE} {te : TE} {σ : St} {t : Str} {y : V} {Q : Bool → Hp → Prop} (Z : St3 A a x wh H S τ B) (sv : selfEq y = true)
    (hte : ∀ (H' : Hp) (Q' : VK), Frm a H H' → (∀ q2 H'', Same H' H'' → H'' q2 = some (.tup [.str t, y]) → Q' (.ref q2) H'') → te σ H' Q')
    (ht : ∀ (E : XK) (H' : Hp) (Q' : VK), Frm a H H' → St3 A a x wh H' S τ B → (∀ H3, Frm a H' H3 → St3 A a x wh H3 S τ B' → RzD A t y H3 E) → t' E σ H' Q')
    (k : ∀ H', Frm a H H' → St3 A a x wh H' S τ B' → Q false H') : tTest (tOp (rTupS K false) (LamX.tLam (TS A) (TTs A) t') te) σ H Q := by
  refine ⟨Z.tb, fun H1 e1 T1 => ?_⟩
  have Z1 := Z.ext e1 T1
  have F1 : Frm a H H1 := Frm.ext e1
  refine ht _ H1 _ F1 Z1 fun H3 F3 Z3 => ?_
  have fin : ∀ (H2 : Hp) (q : Addr), Same H3 H2 → H2 q = none → te σ (upd H2 q (.tup [.str t, y])) fun u H' => rTupS K false (.ref q) u H' fun r H' => ∃ k, r = .bl k ∧ Q k H' := fun H2 q s2 hq => by
    have s3 := s2.trans (Same.new (o := .tup [.str t, y]) hq)
    refine hte _ _ ((F1.trans F3).trans (Frm.same s3)) fun q2 H4 s4 h3 => ?_
    exact ⟨q, q2, _, rfl, rfl, SqT.of (s4 _ _ upd_same), SqT.of h3, (by simp [sv]; rfl), _, rfl, k _ ((F1.trans F3).trans (Frm.same (s3.trans s4))) (Z3.same (s3.trans s4))⟩
  refine ⟨fun e d0 H2 s2 _ hd => .inr ⟨rfl, d0, y, rfl, hd, fun q hq => ?_⟩, fun e d0 H2 s2 _ hd => .inl ⟨rfl, d0, y, rfl, hd, fun q hq => ?_⟩⟩
  · rw [← e]; exact fin _ _ s2 hq
  · rw [← e]; exact fin _ _ s2 hq
end
/-- a value that is not the well -/
def Ny (a : Addr) (H : Hp) (v : V) : Prop := AnyV H v ∧ v ≠ .ref a
theorem Ny.frm {a : Addr} {H H' : Hp} {v : V} (h : Ny a H v) (f : Frm a H H') : Ny a H' v := ⟨h.1.frm h.2 f, h.2⟩
section
variable {P : Program} {w : World} {K : PySem.W.Frag} {mg : Str → Option Value} {base : Heap} {A : Adr}
/-- an odd value of a menu: what it is, behind a draw -/
theorem one_of {a l : Addr} {xs : List V} {H : Hp} {B : Nat} {Q : VK} {E : XK} (hl : H l = some (.lst xs)) (n : l ≠ a) (h0 : 0 < xs.length) (h1 : xs.length < 1000) (hw : WellAt H a B) (hB : B < 100000)
    (k : ∀ (v : V) (H' : Hp), v ∈ xs → But a H H' → WellAt H' a (B + 1) → Q v H') : spOneI K [.ref a, .ref l] H Q E := oneI ⟨a, l, xs, B, rfl, hl, n, h0, h1, hw, by omega, k⟩
theorem nw {H G : Hp} {a q : Addr} {B : Nat} (h : WellAt H a B) (s : Same H G) (hq : G q = none) : q ≠ a := by
  obtain ⟨xs, hx⟩ := h.lst
  exact (ne_of_none (s _ _ hx) hq).symm
theorem WellAt.ext {H G : Hp} {a : Addr} {B : Nat} (h : WellAt H a B) (s : Same H G) : WellAt G a B := by
  obtain ⟨xs, hx⟩ := h.lst
  exact h.same ((s _ _ hx).trans hx.symm)
end
end My
set_option Elab.async false
set_option linter.all false
set_option maxRecDepth 100000
set_option maxHeartbeats 4000000
namespace My
open PySem L2
local macro_rules | `(tactic| walk_at "ds") => `(tactic| dsimp only [tSeq, tIfS, tTest, tB, tAnd, tOr, tNot, tAndV, tOrV, tNotV, tIf, tIsN, tNotN, tOp, tUn, tChain, rI, rI0, rU, tC, tCB, tCons, tNil, tAsg, gName, gSub, tRet, tRetN, tNext, tDrop, tLst, tTup, rIxL, rIxT, rSetL, tVar, tFld, tCall, tDGet, tDIn, tDNotIn, tNever, L2.start, List.map, List.replicate, List.length, List.append, List.cons_append, List.nil_append, List.set, Nat.sub])
local macro_rules | `(tactic| walk_at "hp") => `(tactic| first | assumption | exact upd_same | (refine Eq.trans (upd_ne (by first | assumption | (apply Ne.symm; assumption))) ?_; walk_at "hp"))
local macro_rules | `(tactic| walk_at "sd") => `(tactic| first
  | (show (_ : Int) ≠ 0; omega)
  | (refine (show CDivN _ _ from ⟨?_, ?_⟩) <;> omega)
  | (show CPow _ _; refine ⟨by omega, by omega, by omega⟩)
  | (show CMul _ _; exact Or.inl ⟨by omega, by omega⟩)
  | (show CMul _ _; exact Or.inr ⟨by omega, by omega⟩))
local macro_rules | `(tactic| walk_at "st") => `(tactic| first
  | refine ⟨_, rfl, ?_⟩
  | refine ⟨_, _, rfl, rfl, (by walk_at "sd"), ?_⟩
  | refine ⟨_, _, rfl, rfl, ?_⟩
  | refine ⟨_, _, _, _, rfl, rfl, SqL.of (by walk_at "hp"), rfl, ?_⟩
  | refine ⟨_, _, _, _, rfl, rfl, (by walk_at "hp"), rfl, ?_⟩
  | refine .inl ⟨_, rfl, ?_⟩
  | refine ⟨_, _, _, _, _, rfl, (by walk_at "hp"), (by assumption), (by assumption), rfl, ?_⟩
  | refine ⟨_, _, rfl, .inl (SqL.of (by walk_at "hp")), ?_⟩)
local macro_rules | `(tactic| walk_at "go") => `(tactic| repeat (first | walk_at "st" | (walk_at "ds"; walk_at "st")))
local macro_rules | `(tactic| walk_at "ni") => `(tactic| dsimp (config := { proj := false }) only [tNil, List.cons_append, List.nil_append])
section
variable {P : Program} {w : World} {K : PySem.W.Frag} {mg : Str → Option Value} {base : Heap} {A : Adr}
def spRef (A : Adr) : Sp := fun vs H Q _ => ∃ (a x : Addr) (wh : Wh) (S : Sys) (τ : Tm) (B : Nat) (T : Tb), vs = [.ref a, .ref x, .int 1] ∧ St3 A a x wh H S τ B ∧ B < 1000 ∧ S.tabs 1 = some T ∧ (∀ i, i ≠ 1 → S.tabs i = none) ∧
  ∀ H', Frm a H H' → St3 A a x wh H' S τ (B + 3) → Q (.bl true) H'
theorem ok__law_refused (G : Txt K mg A) (TB : Tb2 base mg A) : FnOk P w K mg base CX0 8 A.a__law_refused A.fd__law_refused p__law_refused (spRef A) := by
  obtain ⟨ds, hMV, hMB⟩ := map_binds G
  obtain ⟨ocS, odS, kvS, docS, pmS, anS, cdS, ctS, oslS, hfd, lkS, hcS⟩ := G.f__law_said.ex
  have hbS := G.bi__law_said
  rw [hfd] at lkS hbS
  refine G.fl__law_refused.ok sc__law_refused (fun vs H Q E h => ?_) (fun A' outer s H vs Q E hr h => ?_)
  · obtain ⟨a, x, wh, S, τ, B, T, rfl, _⟩ := h
    rfl
  · obtain ⟨a, x, wh, S, τ, B, T, rfl, Z, hB, eT, tn, k⟩ := h
    refine ⟨_, (pss_cons (ps_set (i := 3) sc__law_refused.nd rfl (Or.inr rfl) (pe_call (ok__law_oneI G) (hr.mono (by decide)) rfl G.g__law_one G.k__law_one G.bi__law_one .nil pass0 (pa_cons (pv 0) (pa_cons (pe_lst (pa_cons pe_int (pa_cons pe_int (pa_cons (pe_un un_neg pe_int) (pa_cons pe_non (pa_cons pe_str (pa_cons (pe_cmpR op_eq pe_int pe_int (nomark _)) (pa_cons (pe_lst pa_nil) (pa_cons pe_dnewK (pa_cons (pe_tup (pa_cons pe_int pa_nil)) (pa_cons (pe_op op_pow pe_int pe_int) pa_nil))))))))))) pa_nil))))
  (pss_cons (ps_if (pt_cmpR (op_neTupS (hu0 hr)) (LamX.pe_lamcall (T := TS A) (TT := TTs A) (k := 4) rfl G.g__law_said G.k__law_said lkS hcS hbS sc__law_said rfl (Or.inl rfl) (said_gives G) TB.r rfl (List.mem_cons_of_mem _ (List.mem_singleton.mpr rfl)) (TS_r TB) (hr.mono (by decide)) (LamX.lamS_by (sc := defScope s__law_refused) (by decide +kernel)) rfl (fun _ _ _ _ _ => rfl) (fun A2 outer2 s2 H2 E2 f2 c2 hr => by exact (pe_call (ok_gap G) (hr.mono (by decide)) rfl G.g_gap G.k_gap G.bi_gap .nil (passes_call (takes_of rfl rfl rfl rfl) (fun _ _ _ _ z => z)) (pa_cons (pv 1) (pa_cons (pv 3) (pa_cons (pe_call (ok__law_oneI G) (hr.mono (by decide)) rfl G.g__law_one G.k__law_one G.bi__law_one .nil pass0 (pa_cons (pv 0) (pa_cons (pe_lst (pa_cons pe_int (pa_cons pe_int pa_nil))) pa_nil))) pa_nil)))))) (pe_tup (pa_cons pe_str (pa_cons (pv 3) pa_nil))) (nomark _)) (pss_one (ps_ret pe_bl)) pss_nil)
  (pss_cons (ps_if (pt_cmpR (op_neTupS (hu0 hr)) (LamX.pe_lamcall (T := TS A) (TT := TTs A) (k := 4) rfl G.g__law_said G.k__law_said lkS hcS hbS sc__law_said rfl (Or.inl rfl) (said_gives G) TB.r rfl (List.mem_cons_of_mem _ (List.mem_singleton.mpr rfl)) (TS_r TB) (hr.mono (by decide)) (LamX.lamS_by (sc := defScope s__law_refused) (by decide +kernel)) rfl (fun _ _ _ _ _ => rfl) (fun A2 outer2 s2 H2 E2 f2 c2 hr => by exact (pe_call (ok_widest G) (hr.mono (by decide)) rfl G.g_widest G.k_widest G.bi_widest .nil (passes_call (takes_of rfl rfl rfl rfl) (fun _ _ _ _ z => z)) (pa_cons (pv 1) (pa_cons (pv 3) pa_nil))))) (pe_tup (pa_cons pe_str (pa_cons (pv 3) pa_nil))) (nomark _)) (pss_one (ps_ret pe_bl)) pss_nil)
  (pss_cons (ps_if (pt_cmpR (op_neTupS (hu0 hr)) (LamX.pe_lamcall (T := TS A) (TT := TTs A) (k := 4) rfl G.g__law_said G.k__law_said lkS hcS hbS sc__law_said rfl (Or.inl rfl) (said_gives G) TB.r rfl (List.mem_cons_of_mem _ (List.mem_singleton.mpr rfl)) (TS_r TB) (hr.mono (by decide)) (LamX.lamS_by (sc := defScope s__law_refused) (by decide +kernel)) rfl (fun _ _ _ _ _ => rfl) (fun A2 outer2 s2 H2 E2 f2 c2 hr => by exact (pe_call (ok_regions G) (hr.mono (by decide)) rfl G.g_regions G.k_regions G.bi_regions .nil (passes_call (takes_of rfl rfl rfl rfl) (fun _ _ _ _ z => z)) (pa_cons (pv 1) (pa_cons (pv 3) pa_nil))))) (pe_tup (pa_cons pe_str (pa_cons (pv 3) pa_nil))) (nomark _)) (pss_one (ps_ret pe_bl)) pss_nil)
  (pss_cons (ps_set (i := 3) sc__law_refused.nd rfl (Or.inr rfl) (pe_call (ok__law_oneI G) (hr.mono (by decide)) rfl G.g__law_one G.k__law_one G.bi__law_one .nil pass0 (pa_cons (pv 0) (pa_cons (pe_lst (pa_cons pe_int (pa_cons (pe_un un_neg pe_int) (pa_cons pe_int (pa_cons pe_non (pa_cons pe_str (pa_cons (pe_cmpR op_eq pe_int pe_int (nomark _)) (pa_cons (pe_lst pa_nil) (pa_cons pe_dnewK (pa_cons (pe_tup (pa_cons pe_int pa_nil)) (pa_cons (pe_op op_pow pe_int pe_int) pa_nil))))))))))) pa_nil))))
  (pss_cons (ps_if (pt_cmpR (op_neTupS (hu0 hr)) (LamX.pe_lamcall (T := TS A) (TT := TTs A) (k := 4) rfl G.g__law_said G.k__law_said lkS hcS hbS sc__law_said rfl (Or.inl rfl) (said_gives G) TB.r rfl (List.mem_cons_of_mem _ (List.mem_singleton.mpr rfl)) (TS_r TB) (hr.mono (by decide)) (LamX.lamS_by (sc := defScope s__law_refused) (by decide +kernel)) rfl (fun _ _ _ _ _ => rfl) (fun A2 outer2 s2 H2 E2 f2 c2 hr => by exact (pe_call (ok_gap G) (hr.mono (by decide)) rfl G.g_gap G.k_gap G.bi_gap .nil (passes_call (takes_of rfl rfl rfl rfl) (fun _ _ _ _ z => z)) (pa_cons (pv 1) (pa_cons (pv 2) (pa_cons (pv 3) pa_nil)))))) (pe_tup (pa_cons pe_str (pa_cons pe_str pa_nil))) (nomark _)) (pss_one (ps_ret pe_bl)) pss_nil)
  (pss_cons (ps_if (pt_cmpR (op_neTupS (hu0 hr)) (LamX.pe_lamcall (T := TS A) (TT := TTs A) (k := 5) rfl G.g__law_said G.k__law_said lkS hcS hbS sc__law_said rfl (Or.inl rfl) (said_gives G) TB.r rfl (List.mem_cons_of_mem _ (List.mem_singleton.mpr rfl)) (TS_r TB) (hr.mono (by decide)) (LamX.lamS_by (sc := defScope s__law_refused) (by decide +kernel)) rfl (fun _ _ _ _ _ => rfl) (fun A2 outer2 s2 H2 E2 f2 c2 hr => by exact (pe_call (ok_map_pages G) (hr.mono (by decide)) rfl G.g_map_pages G.k_map_pages hMB hMV (passes_call (takes_of rfl rfl rfl rfl) (fun _ _ _ _ z => z)) (pa_cons (pv 1) (pa_cons (pv 2) (pa_cons (pv 3) pa_nil)))))) (pe_tup (pa_cons pe_str (pa_cons pe_str pa_nil))) (nomark _)) (pss_one (ps_ret pe_bl)) pss_nil)
  (pss_one (ps_ret pe_bl))))))))), ?_⟩
--BODY
    refine ⟨_, rfl, _, rfl, rfl, Nat.zero_le _, fun yp1 yh1 => fun yp2 yh2 => ⟨(by show 1 ≤ sizeLine; decide), fun yp3 yh3 => ⟨_, _, rfl, rfl, ⟨by decide, by decide, by decide⟩, (by show 10 ≤ sizeLine; decide), fun yp4 yh4 => ?_⟩⟩⟩
    have ys0 : Same H H := Same.refl _
    have ys1 := ys0.trans (Same.new (o := .lst []) yh1)
    have yn1 : yp1 ≠ a := nw Z.wl ys0 yh1
    have ys2 := ys1.trans (Same.new (o := .dK []) yh2)
    have yn2 : yp2 ≠ a := nw Z.wl ys1 yh2
    have ys3 := ys2.trans (Same.new (o := .tup [.int 1]) yh3)
    have yn3 : yp3 ≠ a := nw Z.wl ys2 yh3
    have ys4 := ys3.trans (Same.new (o := .lst [.int 0, .int 2, .int (-1), .non, .str "1", .bl true, .ref yp1, .ref yp2, .ref yp3, .int (10 ^ Int.toNat 30)]) yh4)
    have yn4 : yp4 ≠ a := nw Z.wl ys3 yh4
    have yg1 : (upd (upd (upd (upd H yp1 (.lst [])) yp2 (.dK [])) yp3 (.tup [.int 1])) yp4 (.lst [.int 0, .int 2, .int (-1), .non, .str "1", .bl true, .ref yp1, .ref yp2, .ref yp3, .int (10 ^ Int.toNat 30)])) yp1 = some (.lst []) := Same.new yh4 _ _ (Same.new yh3 _ _ (Same.new yh2 _ _ (upd_same)))
    have yg2 : (upd (upd (upd (upd H yp1 (.lst [])) yp2 (.dK [])) yp3 (.tup [.int 1])) yp4 (.lst [.int 0, .int 2, .int (-1), .non, .str "1", .bl true, .ref yp1, .ref yp2, .ref yp3, .int (10 ^ Int.toNat 30)])) yp2 = some (.dK []) := Same.new yh4 _ _ (Same.new yh3 _ _ (upd_same))
    have yg3 : (upd (upd (upd (upd H yp1 (.lst [])) yp2 (.dK [])) yp3 (.tup [.int 1])) yp4 (.lst [.int 0, .int 2, .int (-1), .non, .str "1", .bl true, .ref yp1, .ref yp2, .ref yp3, .int (10 ^ Int.toNat 30)])) yp3 = some (.tup [.int 1]) := Same.new yh4 _ _ (upd_same)
    have yg4 : (upd (upd (upd (upd H yp1 (.lst [])) yp2 (.dK [])) yp3 (.tup [.int 1])) yp4 (.lst [.int 0, .int 2, .int (-1), .non, .str "1", .bl true, .ref yp1, .ref yp2, .ref yp3, .int (10 ^ Int.toNat 30)])) yp4 = some (.lst [.int 0, .int 2, .int (-1), .non, .str "1", .bl true, .ref yp1, .ref yp2, .ref yp3, .int (10 ^ Int.toNat 30)]) := upd_same
    refine one_of yg4 yn4 (by show 0 < 10; decide) (by show 10 < 1000; decide) (Z.wl.ext ys4) (by omega) fun yv yH yhv yf yw => ?_
    have yF : Frm a H yH := (Frm.same ys4).trans (Frm.but yf)
    have yk1 := yf _ _ yn1 yg1
    have yk2 := yf _ _ yn2 yg2
    have yk3 := yf _ _ yn3 yg3
    have yany : Ny a yH yv ∧ (∀ i : Int, yv = .int i → i ≠ 1) := by
      simp only [List.mem_cons, List.not_mem_nil, or_false] at yhv
      rcases yhv with rfl | rfl | rfl | rfl | rfl | rfl | rfl | rfl | rfl | rfl
      · exact ⟨⟨.int _, by simp⟩, fun i e => by cases e <;> decide +kernel⟩
      · exact ⟨⟨.int _, by simp⟩, fun i e => by cases e <;> decide +kernel⟩
      · exact ⟨⟨.int _, by simp⟩, fun i e => by cases e <;> decide +kernel⟩
      · exact ⟨⟨.non, by simp⟩, fun i e => by cases e <;> decide +kernel⟩
      · exact ⟨⟨.str _, by simp⟩, fun i e => by cases e <;> decide +kernel⟩
      · exact ⟨⟨.bl _, by simp⟩, fun i e => by cases e <;> decide +kernel⟩
      · exact ⟨⟨.lst yk1, fun z => yn1 (V.ref.inj z)⟩, fun i e => by cases e <;> decide +kernel⟩
      · exact ⟨⟨.dK yk2, fun z => yn2 (V.ref.inj z)⟩, fun i e => by cases e <;> decide +kernel⟩
      · exact ⟨⟨.tup yk3, fun z => yn3 (V.ref.inj z)⟩, fun i e => by cases e <;> decide +kernel⟩
      · exact ⟨⟨.int _, by simp⟩, fun i e => by cases e <;> decide +kernel⟩
    have Zy := (Z.same ys4).draw yf yw
    have pn : ∀ {i : Int} {T' : Tb}, yv = .int i → S.tabs i = some T' → False := fun {i T'} e1 e2 => by
      rw [tn i (yany.2 i e1)] at e2
      cases e2
    have yn : Ny a yH yv := yany.1
    clear yhv yf yw yany yk1 yk2 yk3 yg1 yg2 yg3 yg4 yn1 yn2 yn3 yn4
    -- gap, widest, regions of what is no process
    refine told_St (B' := B + 2) (t := "process") (y := yv) Zy yn.1.selfEq (fun H' Q' F k' => ⟨_, rfl, (by show 2 ≤ sizeLine; decide), fun q hq => k' q _ (Same.new hq) upd_same⟩) (fun E' H' Q' F Z' rz => ?_) fun H2 F2 Z2 => ?_
    · refine ⟨_, rfl, _, rfl, _, rfl, (by show 2 ≤ sizeLine; decide), fun l hl => ?_⟩
      have sl := Same.new (o := .lst [.int 1, .int 0]) hl
      refine one_of upd_same (nw Z'.wl (Same.refl _) hl) (by show 0 < 2; decide) (by show 2 < 1000; decide) (Z'.wl.ext sl) (by omega) fun u H3 hu b3 w3 => ?_
      have Z3 := (Z'.same sl).draw b3 w3
      have F3 : Frm a H' H3 := (Frm.same sl).trans (Frm.but b3)
      have ua : AnyV H3 u := by
        simp only [List.mem_cons, List.not_mem_nil, or_false] at hu
        rcases hu with rfl | rfl <;> exact .int _
      exact ⟨x, wh, S, τ, _, yv, u, rfl, Z3.sy, (yn.frm (F.trans F3)).1, ua, fun _ => (rz H3 F3 Z3).1 rfl, fun i T' e1 e2 => (pn e1 e2).elim⟩
    refine iteF ?_
    have yn2 := yn.frm F2
    refine told_St (B' := B + 2) (t := "process") (y := yv) Z2 yn.1.selfEq (fun H' Q' F k' => ⟨_, rfl, (by show 2 ≤ sizeLine; decide), fun q hq => k' q _ (Same.new hq) upd_same⟩) (fun E' H' Q' F Z' rz => ?_) fun H3 F3 Z3 => ?_
    · exact ⟨_, rfl, _, rfl, x, wh, S, τ, _, yv, rfl, Z'.sy, (yn2.frm F).1, fun _ => (rz H' Frm.refl Z').1 rfl, fun i T' e1 e2 => (pn e1 e2).elim⟩
    refine iteF ?_
    have yn3 := yn2.frm F3
    refine told_St (B' := B + 2) (t := "process") (y := yv) Z3 yn.1.selfEq (fun H' Q' F k' => ⟨_, rfl, (by show 2 ≤ sizeLine; decide), fun q hq => k' q _ (Same.new hq) upd_same⟩) (fun E' H' Q' F Z' rz => ?_) fun H4 F4 Z4 => ?_
    · exact ⟨_, rfl, _, rfl, x, wh, S, τ, _, yv, rfl, Z'.sy, (yn3.frm F).1, fun _ => (rz H' Frm.refl Z').1 rfl, fun i T' e1 e2 => (pn e1 e2).elim⟩
    refine iteF ?_
    have Fy : Frm a H H4 := (((yF.trans F2).trans F3).trans F4)
    clear yn yn2 yn3 pn F2 F3 F4 Z2 Z3 Zy yF
    refine ⟨_, rfl, _, rfl, rfl, Nat.zero_le _, fun zp1 zh1 => fun zp2 zh2 => ⟨(by show 1 ≤ sizeLine; decide), fun zp3 zh3 => ⟨_, _, rfl, rfl, ⟨by decide, by decide, by decide⟩, (by show 10 ≤ sizeLine; decide), fun zp4 zh4 => ?_⟩⟩⟩
    have zs0 : Same H4 H4 := Same.refl _
    have zs1 := zs0.trans (Same.new (o := .lst []) zh1)
    have zn1 : zp1 ≠ a := nw Z4.wl zs0 zh1
    have zs2 := zs1.trans (Same.new (o := .dK []) zh2)
    have zn2 : zp2 ≠ a := nw Z4.wl zs1 zh2
    have zs3 := zs2.trans (Same.new (o := .tup [.int 1]) zh3)
    have zn3 : zp3 ≠ a := nw Z4.wl zs2 zh3
    have zs4 := zs3.trans (Same.new (o := .lst [.int 0, .int (-1), .int 513, .non, .str "1", .bl true, .ref zp1, .ref zp2, .ref zp3, .int (10 ^ Int.toNat 30)]) zh4)
    have zn4 : zp4 ≠ a := nw Z4.wl zs3 zh4
    have zg1 : (upd (upd (upd (upd H4 zp1 (.lst [])) zp2 (.dK [])) zp3 (.tup [.int 1])) zp4 (.lst [.int 0, .int (-1), .int 513, .non, .str "1", .bl true, .ref zp1, .ref zp2, .ref zp3, .int (10 ^ Int.toNat 30)])) zp1 = some (.lst []) := Same.new zh4 _ _ (Same.new zh3 _ _ (Same.new zh2 _ _ (upd_same)))
    have zg2 : (upd (upd (upd (upd H4 zp1 (.lst [])) zp2 (.dK [])) zp3 (.tup [.int 1])) zp4 (.lst [.int 0, .int (-1), .int 513, .non, .str "1", .bl true, .ref zp1, .ref zp2, .ref zp3, .int (10 ^ Int.toNat 30)])) zp2 = some (.dK []) := Same.new zh4 _ _ (Same.new zh3 _ _ (upd_same))
    have zg3 : (upd (upd (upd (upd H4 zp1 (.lst [])) zp2 (.dK [])) zp3 (.tup [.int 1])) zp4 (.lst [.int 0, .int (-1), .int 513, .non, .str "1", .bl true, .ref zp1, .ref zp2, .ref zp3, .int (10 ^ Int.toNat 30)])) zp3 = some (.tup [.int 1]) := Same.new zh4 _ _ (upd_same)
    have zg4 : (upd (upd (upd (upd H4 zp1 (.lst [])) zp2 (.dK [])) zp3 (.tup [.int 1])) zp4 (.lst [.int 0, .int (-1), .int 513, .non, .str "1", .bl true, .ref zp1, .ref zp2, .ref zp3, .int (10 ^ Int.toNat 30)])) zp4 = some (.lst [.int 0, .int (-1), .int 513, .non, .str "1", .bl true, .ref zp1, .ref zp2, .ref zp3, .int (10 ^ Int.toNat 30)]) := upd_same
    refine one_of zg4 zn4 (by show 0 < 10; decide) (by show 10 < 1000; decide) (Z4.wl.ext zs4) (by omega) fun zv zH zhv zf zw => ?_
    have zF : Frm a H4 zH := (Frm.same zs4).trans (Frm.but zf)
    have zk1 := zf _ _ zn1 zg1
    have zk2 := zf _ _ zn2 zg2
    have zk3 := zf _ _ zn3 zg3
    have zany : Ny a zH zv ∧ inR 1 512 zv = false := by
      simp only [List.mem_cons, List.not_mem_nil, or_false] at zhv
      rcases zhv with rfl | rfl | rfl | rfl | rfl | rfl | rfl | rfl | rfl | rfl
      · exact ⟨⟨.int _, by simp⟩, by first | rfl | decide +kernel⟩
      · exact ⟨⟨.int _, by simp⟩, by first | rfl | decide +kernel⟩
      · exact ⟨⟨.int _, by simp⟩, by first | rfl | decide +kernel⟩
      · exact ⟨⟨.non, by simp⟩, by first | rfl | decide +kernel⟩
      · exact ⟨⟨.str _, by simp⟩, by first | rfl | decide +kernel⟩
      · exact ⟨⟨.bl _, by simp⟩, by first | rfl | decide +kernel⟩
      · exact ⟨⟨.lst zk1, fun z => zn1 (V.ref.inj z)⟩, by first | rfl | decide +kernel⟩
      · exact ⟨⟨.dK zk2, fun z => zn2 (V.ref.inj z)⟩, by first | rfl | decide +kernel⟩
      · exact ⟨⟨.tup zk3, fun z => zn3 (V.ref.inj z)⟩, by first | rfl | decide +kernel⟩
      · exact ⟨⟨.int _, by simp⟩, by first | rfl | decide +kernel⟩
    have Zz := (Z4.same zs4).draw zf zw
    have zn : Ny a zH zv := zany.1
    have zo := zany.2
    clear zhv zf zw zany zk1 zk2 zk3 zg1 zg2 zg3 zg4 zn1 zn2 zn3 zn4
    -- gap and map_pages of what is no count
    refine told_St (B' := B + 3) (t := "part") (y := .str "count") Zz rfl (fun H' Q' F k' => ⟨(by show 2 ≤ sizeLine; decide), fun q hq => k' q _ (Same.new hq) upd_same⟩) (fun E' H' Q' F Z' rz => ?_) fun H5 F5 Z5 => ?_
    · refine ⟨_, rfl, _, rfl, _, rfl, x, wh, S, τ, _, .int 1, zv, rfl, Z'.sy, .int _, (zn.frm F).1, livg eT, fun i T' e1 e2 => ⟨fun _ => (rz H' Frm.refl Z').2 rfl, fun c ec c0 c1 => ?_⟩⟩
      rw [ec, inR_of c0 c1] at zo
      cases zo
    refine iteF ?_
    have zn5 := zn.frm F5
    refine told_St (B' := B + 3) (t := "part") (y := .str "count") Z5 rfl (fun H' Q' F k' => ⟨(by show 2 ≤ sizeLine; decide), fun q hq => k' q _ (Same.new hq) upd_same⟩) (fun E' H' Q' F Z' rz => ?_) fun H6 F6 Z6 => ?_
    · refine ⟨_, rfl, _, rfl, _, rfl, x, wh, S, τ, .int 1, zv, .str "rw", .bl false, .non, .int 0, .non, rfl, Z'.sy, ⟨.int _, (zn5.frm F).1, .str _, .bl _, .non, .int _, .non⟩, livg eT, fun i T' e1 e2 => ⟨fun _ => (rz H' Frm.refl Z').2 rfl, fun c ec c0 c1 => ?_⟩⟩
      rw [ec, inR_of c0 c1] at zo
      cases zo
    refine iteF ?_
    exact k _ (((Fy.trans zF).trans F5).trans F6) Z6
end
end My
set_option Elab.async false
set_option linter.all false
set_option maxRecDepth 100000
set_option maxHeartbeats 4000000
namespace My
open PySem L2
local macro_rules | `(tactic| walk_at "ds") => `(tactic| dsimp only [tSeq, tIfS, tTest, tB, tAnd, tOr, tNot, tAndV, tOrV, tNotV, tIf, tIsN, tNotN, tOp, tUn, tChain, rI, rI0, rU, tC, tCB, tCons, tNil, tAsg, gName, gSub, tRet, tRetN, tNext, tDrop, tLst, tTup, rIxL, rIxT, rSetL, tVar, tFld, tCall, tDGet, tDIn, tDNotIn, tNever, L2.start, List.map, List.replicate, List.length, List.append, List.cons_append, List.nil_append, List.set, Nat.sub])
local macro_rules | `(tactic| walk_at "hp") => `(tactic| first | assumption | exact upd_same | (refine Eq.trans (upd_ne (by first | assumption | (apply Ne.symm; assumption))) ?_; walk_at "hp"))
local macro_rules | `(tactic| walk_at "sd") => `(tactic| first
  | (show (_ : Int) ≠ 0; omega)
  | (refine (show CDivN _ _ from ⟨?_, ?_⟩) <;> omega)
  | (show CPow _ _; refine ⟨by omega, by omega, by omega⟩)
  | (show CMul _ _; exact Or.inl ⟨by omega, by omega⟩)
  | (show CMul _ _; exact Or.inr ⟨by omega, by omega⟩))
local macro_rules | `(tactic| walk_at "st") => `(tactic| first
  | refine ⟨_, rfl, ?_⟩
  | refine ⟨_, _, rfl, rfl, (by walk_at "sd"), ?_⟩
  | refine ⟨_, _, rfl, rfl, ?_⟩
  | refine ⟨_, _, _, _, rfl, rfl, SqL.of (by walk_at "hp"), rfl, ?_⟩
  | refine ⟨_, _, _, _, rfl, rfl, (by walk_at "hp"), rfl, ?_⟩
  | refine .inl ⟨_, rfl, ?_⟩
  | refine ⟨_, _, _, _, _, rfl, (by walk_at "hp"), (by assumption), (by assumption), rfl, ?_⟩
  | refine ⟨_, _, rfl, .inl (SqL.of (by walk_at "hp")), ?_⟩)
local macro_rules | `(tactic| walk_at "go") => `(tactic| repeat (first | walk_at "st" | (walk_at "ds"; walk_at "st")))
local macro_rules | `(tactic| walk_at "ni") => `(tactic| dsimp (config := { proj := false }) only [tNil, List.cons_append, List.nil_append])
/-- the law's world: the program's table at T, the law's own pages are those of e -/
structure Wd (A : Adr) (H : Hp) (q3 : Addr) (Ls : List V) (a x : Addr) (wh : Wh) (S : Sys) (τ : Tm) (T : Tb) (sp : Addr) (B ml : Nat) (e : Int → Bool) : Prop where
  st : St3 A a x wh H S τ B
  eT : S.tabs 1 = some T
  tn : ∀ i, i ≠ 1 → S.tabs i = none
  spx : ∃ ls, H sp = some (.dK ls) ∧ KS e ls ∧ ls.length ≤ ml
  tsp : τ sp = none
  q : H q3 = some (.lst Ls)
  nqa : q3 ≠ a
section
variable {A : Adr} {H H' : Hp} {q3 a x sp : Addr} {wh : Wh} {S S' : Sys} {τ τ' : Tm} {T T' : Tb} {Ls : List V} {B B' ml ml' : Nat} {e e' : Int → Bool}
theorem Wd.frm (W : Wd A H q3 Ls a x wh S τ T sp B ml e) (f : Frm a H H') (w : WellAt H' a B') (t : LamX.Tabs (TS A) H') : Wd A H' q3 Ls a x wh S τ T sp B' ml e := by
  obtain ⟨ls, h1, h2, h3⟩ := W.spx
  obtain ⟨xs, hx⟩ := W.st.wl.lst
  exact ⟨W.st.frm f w t, W.eT, W.tn, ⟨ls, f _ _ (ne_of h1 hx (by intro z; cases z)) h1 (fun _ z => by cases z), h2, h3⟩, W.tsp, f _ _ W.nqa W.q (fun _ z => by cases z), W.nqa⟩
theorem Wd.draw (W : Wd A H q3 Ls a x wh S τ T sp B ml e) (s : But a H H') (w : WellAt H' a B') : Wd A H' q3 Ls a x wh S τ T sp B' ml e := W.frm (Frm.but s) w (W.st.draw s w).tb
theorem Wd.same (W : Wd A H q3 Ls a x wh S τ T sp B ml e) (s : Same H H') : Wd A H' q3 Ls a x wh S τ T sp B ml e := W.frm (Frm.same s) (W.st.same s).wl (W.st.same s).tb
theorem Wd.mono (W : Wd A H q3 Ls a x wh S τ T sp B ml e) (h : B ≤ B') (h2 : B' ≤ 1000000) (h3 : ml ≤ ml') : Wd A H q3 Ls a x wh S τ T sp B' ml' e := by
  obtain ⟨ls, g1, g2, g3⟩ := W.spx
  exact ⟨W.st.mono h h2, W.eT, W.tn, ⟨ls, g1, g2, by omega⟩, W.tsp, W.q, W.nqa⟩
/-- the law's own pages change -/
theorem Wd.space {ls' : List (Key × V)} (W : Wd A H q3 Ls a x wh S τ T sp B ml e) (s : But sp H H') (h : H' sp = some (.dK ls')) (ks : KS e' ls') (few : ls'.length ≤ ml') : Wd A H' q3 Ls a x wh S τ T sp B ml' e' := by
  obtain ⟨ls, h1, h2, h3⟩ := W.spx
  obtain ⟨xs, hx⟩ := W.st.wl.lst
  have na : a ≠ sp := ne_of hx h1 (by intro z; cases z)
  have kp : Kp τ H H' := fun b o e c => by
    refine s b o (fun z => ?_) e
    rcases c with c | c
    · exact c (by rw [z]; exact W.tsp)
    · rw [z, h1] at e; cases e; cases c
  have tb : LamX.Tabs (TS A) H' := Tabs.keep W.st.tb fun b o e => ⟨fun u q => s b o (fun z => by rw [z, h1, q] at e; cases e) e, fun ps q => s b o (fun z => by rw [z, h1, q] at e; cases e) e⟩
  exact ⟨⟨tb, W.st.wl.same ((s _ _ na hx).trans hx.symm), W.st.sy.keep kp, W.st.ta⟩, W.eT, W.tn, ⟨ls', h, ks, few⟩, W.tsp, s _ _ (ne_of W.q h1 (by intro z; cases z)) W.q, W.nqa⟩
/-- the program works -/
theorem Wd.go (W : Wd A H q3 Ls a x wh S τ T sp B ml e) (g : Go τ H τ' H') (s : Sr A H' x wh S' τ') (eT : S'.tabs 1 = some T') (tn : ∀ i, i ≠ 1 → S'.tabs i = none) : Wd A H' q3 Ls a x wh S' τ' T' sp B ml e := by
  obtain ⟨ls, h1, h2, h3⟩ := W.spx
  refine ⟨W.st.go g s, eT, tn, ⟨ls, g.fr _ _ W.tsp h1, h2, h3⟩, ?_, g.ls _ _ W.q, W.nqa⟩
  rcases g.ex sp with z | z
  · exact z.trans W.tsp
  · rw [h1] at z; cases z.2
theorem fits_in {g : Int → Bool} {c r : Int} (hc : 1 ≤ c) (h : fits g c = .int r) : 0 ≤ r ∧ r ≤ 512 - c := by
  unfold fits at h
  split at h
  · rename_i i hi
    rw [List.find?_range_eq_some] at hi
    obtain ⟨h1, h2, _⟩ := hi
    have h2 := List.mem_range.mp h2
    have h1 : runN g (i + 1) = c := by simpa using h1
    have b := (runN_at g (i + 1)).2
    have e := V.int.inj h
    omega
  · cases h
theorem mpd_map (f c : Int) (r : Str) (sh : Bool) (s : Src) (i0 : Int) : mpd (mapT T f c r sh s i0) = fun k => mpd T k || decide (f ≤ k ∧ k < f + c) := by
  funext k
  unfold mpd
  by_cases h : f ≤ k ∧ k < f + c
  · rw [mapT, if_pos h, decide_eq_true h]
    simp
  · rw [mapT, if_neg h, decide_eq_false h]
    simp
theorem mpd_unm (f c : Int) : mpd (unmT T f c) = fun k => mpd T k && !decide (f ≤ k ∧ k < f + c) := by
  funext k
  unfold mpd
  by_cases h : f ≤ k ∧ k < f + c
  · rw [unmT, if_pos h, decide_eq_true h]
    simp
  · rw [unmT, if_neg h, decide_eq_false h]
    simp
end
def spLaw (K : PySem.W.Frag) (A : Adr) : Sp := fun vs H Q _ => ∃ (a : Addr) (ns : List Int), vs = [.ref a] ∧ SqL K H a (ns.map V.int) ∧ ns.length ≤ 63 ∧ LamX.Tabs (TS A) H ∧ ∀ H', Q (.bl true) H'
end My
set_option Elab.async false
set_option linter.all false
set_option maxRecDepth 100000
set_option maxHeartbeats 4000000
namespace My
open PySem L2
local macro_rules | `(tactic| walk_at "ds") => `(tactic| dsimp only [tSeq, tIfS, tTest, tB, tAnd, tOr, tNot, tAndV, tOrV, tNotV, tIf, tIsN, tNotN, tOp, tUn, tChain, rI, rI0, rU, tC, tCB, tCons, tNil, tAsg, gName, gSub, tRet, tRetN, tNext, tDrop, tLst, tTup, rIxL, rIxT, rSetL, tVar, tFld, tCall, tDGet, tDIn, tDNotIn, tNever, L2.start, List.map, List.replicate, List.length, List.append, List.cons_append, List.nil_append, List.set, Nat.sub])
local macro_rules | `(tactic| walk_at "hp") => `(tactic| first | assumption | exact upd_same | (refine Eq.trans (upd_ne (by first | assumption | (apply Ne.symm; assumption))) ?_; walk_at "hp"))
local macro_rules | `(tactic| walk_at "sd") => `(tactic| first
  | (show (_ : Int) ≠ 0; omega)
  | (refine (show CDivN _ _ from ⟨?_, ?_⟩) <;> omega)
  | (show CPow _ _; refine ⟨by omega, by omega, by omega⟩)
  | (show CMul _ _; exact Or.inl ⟨by omega, by omega⟩)
  | (show CMul _ _; exact Or.inr ⟨by omega, by omega⟩))
local macro_rules | `(tactic| walk_at "st") => `(tactic| first
  | refine ⟨_, rfl, ?_⟩
  | refine ⟨_, _, rfl, rfl, (by walk_at "sd"), ?_⟩
  | refine ⟨_, _, rfl, rfl, ?_⟩
  | refine ⟨_, _, _, _, rfl, rfl, SqL.of (by walk_at "hp"), rfl, ?_⟩
  | refine ⟨_, _, _, _, rfl, rfl, (by walk_at "hp"), rfl, ?_⟩
  | refine .inl ⟨_, rfl, ?_⟩
  | refine ⟨_, _, _, _, _, rfl, (by walk_at "hp"), (by assumption), (by assumption), rfl, ?_⟩
  | refine ⟨_, _, rfl, .inl (SqL.of (by walk_at "hp")), ?_⟩)
local macro_rules | `(tactic| walk_at "go") => `(tactic| repeat (first | walk_at "st" | (walk_at "ds"; walk_at "st")))
local macro_rules | `(tactic| walk_at "ni") => `(tactic| dsimp (config := { proj := false }) only [tNil, List.cons_append, List.nil_append])
section
variable {P : Program} {w : World} {K : PySem.W.Frag} {mg : Str → Option Value} {base : Heap} {A : Adr}
theorem ok_law (G : Txt K mg A) (TB : Tb2 base mg A) : FnOk P w K mg base CX0 9 A.a_law A.fd_law p_law (spLaw K A) := by
  obtain ⟨ds, hIV, hIB⟩ := init_binds G
  obtain ⟨es, hMV, hMB⟩ := map_binds G
  obtain ⟨mva, hMa⟩ := map_ka G
  obtain ⟨ocS, odS, kvS, docS, pmS, anS, cdS, ctS, oslS, hfd, lkS, hcS⟩ := G.f__law_said.ex
  have hbS := G.bi__law_said
  rw [hfd] at lkS hbS
  refine G.fl_law.ok sc_law (fun vs H Q E h => ?_) (fun A' outer s H vs Q E hr h => ?_)
  · obtain ⟨a, ns, rfl, _⟩ := h
    rfl
  · obtain ⟨a0, ns, rfl, hS, hn, hT, k⟩ := h
    refine ⟨_, (pss_cons (ps_for PassesOwn.never rfl (pi_list (pe_op op_cat (pe_slice sl_list (pv 0) po_none (po_some pe_int)) (pe_lst (pa_cons pe_int (pa_cons pe_int pa_nil))))) (pg_name (i := 1) sc_law.nd rfl (Or.inl rfl)) (pss_cons (ps_set (i := 2) sc_law.nd rfl (Or.inl rfl) (pe_call (ok__law_well G) (hr.mono (by decide)) rfl G.g__law_well G.k__law_well G.bi__law_well .nil pass0 (pa_cons (pv 1) pa_nil)))
  (pss_cons (ps_set (i := 3) sc_law.nd rfl (Or.inr rfl) (pe_make0 G.mk_System (ok_System_init G) (hr.mono (by decide)) rfl G.g_System hIB hIV pass0))
  (pss_cons (ps_set (i := 4) sc_law.nd rfl (Or.inr rfl) (pe_call (ok_spawn G) (hr.mono (by decide)) rfl G.g_spawn G.k_spawn G.bi_spawn .nil pass0 (pa_cons (pv 3) pa_nil)))
  (pss_cons (ps_set (i := 5) sc_law.nd rfl (Or.inl rfl) pe_dnewK)
  (pss_cons (ps_for PassesOwn.never rfl (pi_range1 rfl G.b_range (pa_cons (pe_call (ok__law_drawI G) (hr.mono (by decide)) rfl G.g__law_draw G.k__law_draw G.bi__law_draw .nil pass0 (pa_cons (pv 2) (pa_cons pe_int pa_nil))) pa_nil)) (pg_name (i := 6) sc_law.nd rfl (Or.inl rfl)) (pss_cons (ps_set (i := 7) sc_law.nd rfl (Or.inl rfl) (pe_call (ok__law_oneI G) (hr.mono (by decide)) rfl G.g__law_one G.k__law_one G.bi__law_one .nil pass0 (pa_cons (pv 2) (pa_cons (pe_lst (pa_cons pe_int (pa_cons pe_int (pa_cons (pe_call (ok__law_drawI G) (hr.mono (by decide)) rfl G.g__law_draw G.k__law_draw G.bi__law_draw .nil pass0 (pa_cons (pv 2) (pa_cons pe_int pa_nil))) (pa_cons (pe_call (ok__law_drawI G) (hr.mono (by decide)) rfl G.g__law_draw G.k__law_draw G.bi__law_draw .nil pass0 (pa_cons (pv 2) (pa_cons pe_int pa_nil))) pa_nil))))) pa_nil))))
  (pss_cons (ps_set (i := 8) sc_law.nd rfl (Or.inr rfl) (pe_callB (call_min2 rfl) (by rfl) G.b_min (by decide +kernel) (pa_cons (pe_op op_sub pe_int (pv 7)) (pa_cons (pe_op op_add pe_int (pe_call (ok__law_drawI G) (hr.mono (by decide)) rfl G.g__law_draw G.k__law_draw G.bi__law_draw .nil pass0 (pa_cons (pv 2) (pa_cons (pe_call (ok__law_oneI G) (hr.mono (by decide)) rfl G.g__law_one G.k__law_one G.bi__law_one .nil pass0 (pa_cons (pv 2) (pa_cons (pe_lst (pa_cons pe_int (pa_cons pe_int (pa_cons pe_int pa_nil)))) pa_nil))) pa_nil)))) pa_nil))))
  (pss_one (ps_if (pt_cmpR op_eq (pe_call (ok__law_drawI G) (hr.mono (by decide)) rfl G.g__law_draw G.k__law_draw G.bi__law_draw .nil pass0 (pa_cons (pv 2) (pa_cons pe_int pa_nil))) pe_int (nomark _)) (pss_cons (ps_expr (pe_call (ok_unmap G) (hr.mono (by decide)) rfl G.g_unmap G.k_unmap G.bi_unmap .nil passL (pa_cons (pv 3) (pa_cons (pv 4) (pa_cons (pv 7) (pa_cons (pv 8) pa_nil))))))
  (pss_one (ps_for PassesOwn.never rfl (pi_range2 rfl G.b_range (pa_cons (pv 7) (pa_cons (pe_op op_add (pv 7) (pv 8)) pa_nil))) (pg_name (i := 9) sc_law.nd rfl (Or.inl rfl)) (pss_one (ps_expr (pe_dpop2 (pv 5) (pv 9) pe_non ⟨rfl, rfl, rfl, rfl⟩)))))) (pss_cons (ps_expr (pe_callN (ok_map_pages G) (hr.mono (by decide)) rfl G.g_map_pages G.k_map_pages hMa passL (pa_cons (pv 3) (pa_cons (pv 4) (pa_cons (pv 8) pa_nil))) (pk_cons (pv 7) pk_nil)))
  (pss_one (ps_for PassesOwn.never rfl (pi_range2 rfl G.b_range (pa_cons (pv 7) (pa_cons (pe_op op_add (pv 7) (pv 8)) pa_nil))) (pg_name (i := 9) sc_law.nd rfl (Or.inl rfl)) (pss_one (ps_dput (hu_of hr) (pv 5) (pv 9) pe_bl rfl))))))))))
  (pss_cons (ps_if (pt_cmpR op_ne (pe_call (ok_widest G) (hr.mono (by decide)) rfl G.g_widest G.k_widest G.bi_widest .nil passL (pa_cons (pv 3) (pa_cons (pv 4) pa_nil))) (pe_call (ok__law_widest G) (hr.mono (by decide)) rfl G.g__law_widest G.k__law_widest G.bi__law_widest .nil pass0 (pa_cons (pv 5) pa_nil)) (nomark _)) (pss_one (ps_ret pe_bl)) pss_nil)
  (pss_cons (ps_for PassesOwn.never rfl (pi_list (pe_lst (pa_cons pe_int (pa_cons pe_int (pa_cons pe_int (pa_cons (pe_call (ok__law_widest G) (hr.mono (by decide)) rfl G.g__law_widest G.k__law_widest G.bi__law_widest .nil pass0 (pa_cons (pv 5) pa_nil)) (pa_cons (pe_op op_add (pe_call (ok__law_widest G) (hr.mono (by decide)) rfl G.g__law_widest G.k__law_widest G.bi__law_widest .nil pass0 (pa_cons (pv 5) pa_nil)) pe_int) (pa_cons (pe_op op_add pe_int (pe_call (ok__law_drawI G) (hr.mono (by decide)) rfl G.g__law_draw G.k__law_draw G.bi__law_draw .nil pass0 (pa_cons (pv 2) (pa_cons pe_int pa_nil)))) pa_nil)))))))) (pg_name (i := 8) sc_law.nd rfl (Or.inr rfl)) (pss_one (ps_if (PW.pt (pw_and (pt_chain op_le op_le pe_int (pv 8) pe_int) (pw_and1 (pt_cmpR op_ne (pe_call (ok_gap G) (hr.mono (by decide)) rfl G.g_gap G.k_gap G.bi_gap .nil passL (pa_cons (pv 3) (pa_cons (pv 4) (pa_cons (pv 8) pa_nil)))) (pe_call (ok__law_fits G) (hr.mono (by decide)) rfl G.g__law_fits G.k__law_fits G.bi__law_fits .nil pass0 (pa_cons (pv 5) (pa_cons (pv 8) pa_nil))) (nomark _))))) (pss_one (ps_ret pe_bl)) pss_nil)))
  (pss_cons (ps_if (pt_not (pt_val (pe_call (ok__law_refused G TB) (hr.mono (by decide)) rfl G.g__law_refused G.k__law_refused G.bi__law_refused .nil pass0 (pa_cons (pv 2) (pa_cons (pv 3) (pa_cons (pv 4) pa_nil)))))) (pss_one (ps_ret pe_bl)) pss_nil)
  (pss_cons (ps_set (i := 8) sc_law.nd rfl (Or.inr rfl) (pe_op op_add pe_int (pe_call (ok__law_drawI G) (hr.mono (by decide)) rfl G.g__law_draw G.k__law_draw G.bi__law_draw .nil pass0 (pa_cons (pv 2) (pa_cons (pe_call (ok__law_oneI G) (hr.mono (by decide)) rfl G.g__law_one G.k__law_one G.bi__law_one .nil pass0 (pa_cons (pv 2) (pa_cons (pe_lst (pa_cons pe_int (pa_cons pe_int pa_nil))) pa_nil))) pa_nil)))))
  (pss_cons (ps_set (i := 10) sc_law.nd rfl (Or.inl rfl) (pe_call (ok__law_fits G) (hr.mono (by decide)) rfl G.g__law_fits G.k__law_fits G.bi__law_fits .nil pass0 (pa_cons (pv 5) (pa_cons (pv 8) pa_nil))))
  (pss_one (ps_if (pt_cmpR (OpR.or op_ne (op_neTupS (hu0 hr))) (LamX.pe_lamcall (T := TS A) (TT := TTs A) (k := 5) rfl G.g__law_said G.k__law_said lkS hcS hbS sc__law_said rfl (Or.inl rfl) (said_gives G) TB.l rfl List.mem_cons_self (TS_l TB) (hr.mono (by decide)) (LamX.lamS_by (sc := defScope s_law) (by decide +kernel)) rfl (fun _ _ _ _ _ => rfl) (fun A2 outer2 s2 H2 E2 f2 c2 hr => by exact (pe_call (ok_map_pages G) (hr.mono (by decide)) rfl G.g_map_pages G.k_map_pages hMB hMV (passes_call (takes_of rfl rfl rfl rfl) (fun _ _ _ _ z => z)) (pa_cons (pv 3) (pa_cons (pv 4) (pa_cons (pv 8) pa_nil)))))) (pe_ix ix_list (pe_lst (pa_cons (pv 10) (pa_cons (pe_tup (pa_cons pe_str (pa_cons pe_str pa_nil))) pa_nil))) (pe_callTy call_int1 (by rfl) G.b_int (by decide +kernel) (pa_cons (pe_cmp (pc_isN (pv 10)) rfl) pa_nil)) (fun _ _ => rfl)) (nomark _)) (pss_one (ps_ret pe_bl)) pss_nil)))))))))))))
  (pss_one (ps_ret pe_bl))), ?_⟩
    -- script[:8] + [0, 1]
    refine ⟨_, rfl, _, rfl, a0, _, rfl, hS, fun q1 hq1 => ⟨(by show 2 ≤ sizeLine; decide), fun q2 hq2 => ?_⟩⟩
    obtain ⟨ms, hms, hml⟩ : ∃ ms : List Int, cutV (ns.map V.int) none (some 8) = ms.map V.int ∧ ms.length ≤ 63 := by
      refine ⟨(ns.drop (HT.sIx (ns.map V.int).length 0 none)).take (HT.sIx (ns.map V.int).length (ns.map V.int).length (some 8) - HT.sIx (ns.map V.int).length 0 none), ?_, ?_⟩
      · unfold cutV
        rw [List.map_take, List.map_drop]
      · rw [List.length_take, List.length_drop]
        omega
    have u1 : (upd (upd H q1 (.lst (cutV (ns.map V.int) none (some 8)))) q2 (.lst [.int 0, .int 1])) q1 = some (.lst (ms.map V.int)) := by rw [upd_ne (ne_of_none upd_same hq2), upd_same, hms]
    refine ⟨q1, q2, _, _, rfl, rfl, u1, upd_same, (by rw [List.length_map]; show ms.length + 2 ≤ sizeLine; exact Nat.le_trans (Nat.add_le_add_right hml 2) (by decide)), fun q3 hq3 => ?_⟩
    have sA : Same H (upd (upd (upd H q1 (.lst (cutV (ns.map V.int) none (some 8)))) q2 (.lst [.int 0, .int 1])) q3 (.lst (ms.map V.int ++ [.int 0, .int 1]))) := ((Same.new hq1).trans (Same.new hq2)).trans (Same.new hq3)
    have TA := hT.ext sA
    generalize hHA : upd (upd (upd H q1 (.lst (cutV (ns.map V.int) none (some 8)))) q2 (.lst [.int 0, .int 1])) q3 (.lst (ms.map V.int ++ [.int 0, .int 1])) = HA at *
    have lA : HA q3 = some (.lst (ms.map V.int ++ [.int 0, .int 1])) := by rw [← hHA, upd_same]
    have hL0 : ∀ y ∈ ms.map V.int ++ [V.int 0, V.int 1], ∃ n, y = V.int n := fun y hy => by
      rcases List.mem_append.mp hy with z | z
      · obtain ⟨n, _, rfl⟩ := List.mem_map.mp z
        exact ⟨n, rfl⟩
      · simp at z
        rcases z with rfl | rfl <;> exact ⟨_, rfl⟩
    generalize hLs : ms.map V.int ++ [V.int 0, V.int 1] = Ls at *
    refine ⟨q3, rfl, ⟨_, SqL.of lA⟩, for_list (K := K) (a := q3) (xs := Ls)
      (fun _ σ H' => (∃ c1 c2 c3 c4 c5 c6 c7 c8 c9 c10, σ = [some (.ref a0), c1, c2, c3, c4, c5, c6, c7, c8, c9, c10]) ∧ LamX.Tabs (TS A) H' ∧ H' q3 = some (.lst Ls))
      ⟨⟨_, _, _, _, _, _, _, _, _, _, rfl⟩, TA, lA⟩ (fun _ σ H' _ hp => SqL.of hp.2.2) ?_ ?_⟩
    · rintro _ y σ H0 hy ⟨⟨c1, c2, c3, c4, c5, c6, c7, c8, c9, c10, rfl⟩, T0, l0⟩
      obtain ⟨n, rfl⟩ := hL0 y (List.mem_of_getElem? hy)
      clear hL0 hHA lA TA sA u1 hq3 hq2 hq1 hS hT hy
      -- well, system
      refine ⟨_, rfl, n, rfl, fun a H1 ha s1 w1 => ?_⟩
      refine fun x dx hx hdx hne => ⟨x, dx, rfl, upd_same, fun H3 wh τ b3 t3 S3 hfi => ⟨rfl, ?_⟩⟩
      have naq : q3 ≠ a := fun e => by rw [← e, l0] at ha; cases ha
      obtain ⟨Z3, l3⟩ : St3 A a x wh H3 S0 τ 0 ∧ H3 q3 = some (.lst Ls) := by
        obtain ⟨xs, hxs⟩ := id w1.lst
        have sN : Same H1 (upd (upd H1 dx (.own x)) x (.ins A.c_System dx [])) := (Same.new hdx).trans (Same.new (by rw [upd_ne (Ne.symm hne)]; exact hx))
        have keep : Same H1 H3 := fun b o e => b3 _ _ (ne_of_none e hx) (sN _ _ e)
        have tn : ∀ {b : Addr} {o : HO}, H1 b = some o → τ b = none := fun {b o} e => by
          cases z : τ b with
          | none => rfl
          | some g =>
            rcases t3 b g z with y | y
            · exact absurd y (ne_of_none e hx)
            · rw [sN _ _ e] at y; cases y
        exact ⟨⟨(T0.ext s1).ext keep, w1.same ((keep _ _ hxs).trans hxs.symm), S3, tn hxs⟩, keep _ _ (s1 _ _ l0)⟩
      clear b3 t3 S3 hdx hne hx w1 s1 ha T0 l0
      -- a process
      refine ⟨_, rfl, x, wh, _, τ, rfl, Z3.sy, by decide, fun H5 τ5 g5 S5 => ?_⟩
      have Z5 := Z3.go g5 S5
      have l5 := g5.ls _ _ l3
      rw [show S0.p + 1 = 1 from rfl]
      have eT : (spnS S0).tabs 1 = some (fun _ => none) := rfl
      have tn : ∀ i, i ≠ 1 → (spnS S0).tabs i = none := fun i hi => by
        show (if i = (0 : Int) + 1 then _ else none) = none
        rw [if_neg (by omega)]
      clear hfi Z3 l3 g5 S5
      intro sp hsp
      have W0 : Wd A (upd H5 sp (.dK [])) q3 Ls a x wh (spnS S0) τ5 (fun _ => none) sp 0 0 (mpd fun _ => none) :=
        ⟨Z5.same (Same.new hsp), eT, tn, ⟨[], upd_same, fun _ => rfl, Nat.le_refl _⟩, Z5.sy.fresh hsp, Same.new hsp _ _ l5, naq⟩
      generalize upd H5 sp (.dK []) = H6 at *
      generalize spnS S0 = S6 at *
      generalize (fun (_ : Int) => (none : Option Pg)) = T6 at *
      clear hsp Z5 l5 eT tn
      dsimp only [gName, List.set]
      -- the steps
      refine ⟨_, rfl, ?_⟩
      refine drawI ⟨a, 13, 0, rfl, by decide, by decide, W0.st.wl, by decide, fun d1 H7 d10 d11 f7 w7 => ?_⟩
      have W1 := W0.draw f7 w7
      refine ⟨d1, rfl, by omega, by omega, for_range (lo := 0) (n := d1.toNat) (fun i σ H' => ∃ c6 c7 c8 c9 S τ T, σ = [some (.ref a0), some (.int n), some (.ref a), some (.ref x), some (.int 1), some (.ref sp), c6, c7, c8, c9, c10] ∧ Wd A H' q3 Ls a x wh S τ T sp (1 + 8 * i) (512 * i) (mpd T))
        ⟨_, _, _, _, _, _, _, rfl, W1⟩ ?_ ?_⟩
      · rintro i σ H8 hi ⟨c6, c7, c8, c9, S, τ', T, rfl, W⟩
        have i12 : i ≤ 12 := by omega
        -- begin
        refine ⟨_, rfl, _, rfl, ?_⟩
        refine drawI ⟨a, 512, _, rfl, by decide, by decide, W.st.wl, by omega, fun e1 H9 e10 e11 f8 w8 => ?_⟩
        have W8 := W.draw f8 w8
        refine ⟨_, rfl, ?_⟩
        refine drawI ⟨a, 40, _, rfl, by decide, by decide, W8.st.wl, by omega, fun e2 H10 e20 e21 f9 w9 => ⟨(by show 4 ≤ sizeLine; decide), fun q7 hq7 => ?_⟩⟩
        have W9 := W8.draw f9 w9
        have s7 := Same.new (o := .lst [.int 0, .int 500, .int e1, .int e2]) hq7
        refine one_of upd_same (nw W9.st.wl (Same.refl _) hq7) (by show 0 < 4; decide) (by show 4 < 1000; decide) (W9.st.wl.ext s7) (by omega) fun u H11 hu f10 w10 => ?_
        have W10 := (W9.same s7).draw f10 w10
        obtain ⟨b, rfl, b0, b1⟩ : ∃ b : Int, u = .int b ∧ 0 ≤ b ∧ b ≤ 511 := by
          simp only [List.mem_cons, List.not_mem_nil, or_false] at hu
          rcases hu with rfl | rfl | rfl | rfl
          · exact ⟨_, rfl, by decide, by decide⟩
          · exact ⟨_, rfl, by decide, by decide⟩
          · exact ⟨_, rfl, by omega, by omega⟩
          · exact ⟨_, rfl, by omega, by omega⟩
        clear W8 W9 f8 w8 f9 w9 f10 w10 hq7 hu W s7
        -- many
        refine ⟨_, rfl, _, _, rfl, rfl, _, rfl, _, rfl, (by show 3 ≤ sizeLine; decide), fun q8 hq8 => ?_⟩
        have s8 := Same.new (o := .lst [.int 4, .int 60, .int 512]) hq8
        refine one_of upd_same (nw W10.st.wl (Same.refl _) hq8) (by show 0 < 3; decide) (by show 3 < 1000; decide) (W10.st.wl.ext s8) (by omega) fun u2 H12 hu2 f11 w11 => ?_
        have W11 := (W10.same s8).draw f11 w11
        obtain ⟨mm, rfl, m0, m1⟩ : ∃ b : Int, u2 = .int b ∧ 0 < b ∧ b < 1000000 := by
          simp only [List.mem_cons, List.not_mem_nil, or_false] at hu2
          rcases hu2 with rfl | rfl | rfl <;> exact ⟨_, rfl, by decide, by decide⟩
        refine drawI ⟨a, mm, _, rfl, m0, m1, W11.st.wl, by omega, fun e3 H13 e30 e31 f12 w12 => ⟨1, e3, rfl, rfl, 512 - b, 1 + e3, rfl, ?_⟩⟩
        have W12 := W11.draw f12 w12
        obtain ⟨m, em, m2, m3⟩ : ∃ m : Int, (if 1 + e3 < 512 - b then 1 + e3 else 512 - b) = m ∧ 1 ≤ m ∧ m ≤ 512 - b := by
          refine ⟨_, rfl, ?_, ?_⟩ <;> split <;> omega
        rw [em]
        clear W10 W11 f11 w11 hq8 hu2 f12 w12 em s8
        refine ⟨_, rfl, ?_⟩
        refine drawI ⟨a, 4, _, rfl, by decide, by decide, W12.st.wl, by omega, fun e4 H14 e40 e41 f13 w13 => ⟨rfl, _, rfl, iteB (fun e => ?_) (fun e => ?_)⟩⟩
        · have W13 := W12.draw f13 w13
          refine ⟨_, rfl, _, rfl, _, rfl, _, rfl, ?_⟩
          dsimp only [tNil, List.cons_append, List.nil_append]
          refine use_unmap W13.st.sy W13.eT b0 (by omega) m2 m3 fun H15 τ15 g15 S15 => ?_
          have W14 := W13.go g15 S15 (T' := unmT T b m) rfl (fun j hj => by
            show (if j = 1 then _ else S.tabs j) = none
            rw [if_neg hj]
            exact W13.tn j hj)
          have ec : ((b + m - b).toNat : Int) = m := by omega
          refine ⟨_, rfl, _, rfl, _, rfl, _, _, rfl, rfl, b, b + m, rfl, ⟨by omega, by omega, by omega, by omega⟩, for_range (lo := b) (n := (b + m - b).toNat) (fun j σ H' => (∃ c6 c9, σ = [some (.ref a0), some (.int n), some (.ref a), some (.ref x), some (.int 1), some (.ref sp), c6, some (.int b), some (.int m), c9, c10]) ∧
              Wd A H' q3 Ls a x wh (unmS S 1 T b m) τ15 (unmT T b m) sp (1 + 8 * i + 1 + 1 + 1 + 1 + 1 + 1) (512 * i) (fun k => mpd T k && !decide (b ≤ k ∧ k < b + (j : Nat)))) ⟨⟨_, _, rfl⟩, ?_⟩ ?_ ?_⟩
          · obtain ⟨ls, g1, g2, g3⟩ := W14.spx
            refine W14.space (fun _ _ _ h => h) g1 (fun k => ?_) g3
            rw [g2, decide_eq_false (by simp only [Int.natCast_zero]; omega)]
            simp
          · rintro j σ Z hj ⟨⟨c6', c9', rfl⟩, WZ⟩
            obtain ⟨ls, z2, z3, z4⟩ := WZ.spx
            refine ⟨_, rfl, sp, rfl, .inl ⟨ls, .inl z2⟩, _, rfl, ls, Sum.inl (b + (j : Nat)), z2, rfl, fun v hv => ⟨⟨_, _, rfl⟩, WZ.space But.up upd_same (fun k => ?_) (Nat.le_trans (List.length_filter_le _ _) z4)⟩, fun hv => ⟨⟨_, _, rfl⟩, WZ.space (fun _ _ _ h => h) z2 (fun k => ?_) z4⟩⟩
            · rw [val_drop]
              by_cases ek : k = b + (j : Nat)
              · rw [if_pos (by rw [ek])]
                have : decide (b ≤ k ∧ k < b + ((j + 1 : Nat) : Int)) = true := decide_eq_true (by omega)
                rw [this]
                simp
              · rw [if_neg (fun z => ek (Sum.inl.inj z)), z3]
                have : decide (b ≤ k ∧ k < b + ((j + 1 : Nat) : Int)) = decide (b ≤ k ∧ k < b + (j : Nat)) := by rw [decide_eq_decide]; omega
                rw [this]
            · by_cases ek : k = b + (j : Nat)
              · rw [ek, hv]
                have : decide (b ≤ b + (j : Nat) ∧ b + (j : Nat) < b + ((j + 1 : Nat) : Int)) = true := decide_eq_true (by omega)
                rw [this]
                simp
              · rw [z3]
                have : decide (b ≤ k ∧ k < b + ((j + 1 : Nat) : Int)) = decide (b ≤ k ∧ k < b + (j : Nat)) := by rw [decide_eq_decide]; omega
                rw [this]
          · rintro σ Z ⟨⟨c6', c9', rfl⟩, WZ⟩
            rw [ec, ← mpd_unm] at WZ
            exact ⟨_, _, _, _, _, _, _, rfl, WZ.mono (by omega) (by omega) (by omega)⟩
        · have W13 := W12.draw f13 w13
          refine ⟨_, rfl, _, rfl, _, rfl, _, rfl, rfl, rfl, ?_⟩
          refine use_map (i := 1) (f := b) (s := .non) W13.st.sy W13.eT m2 (by omega) (by decide +kernel) rfl (fun j e => (nomatch e)) (fun n e => (nomatch e)) (by decide) (fun e => rfl) (fun e => absurd rfl e) (.int _) (if_neg (by simp)) b0 (by omega) (fun e => (nomatch e)) fun H15 τ15 g15 S15 => ?_
          have W14 := W13.go g15 S15 (T' := mapT T b m "rw" false .non 0) rfl (fun j hj => by
            show (if j = 1 then _ else S.tabs j) = none
            rw [if_neg hj]
            exact W13.tn j hj)
          have ec : ((b + m - b).toNat : Int) = m := by omega
          refine ⟨_, rfl, _, rfl, _, rfl, _, _, rfl, rfl, b, b + m, rfl, ⟨by omega, by omega, by omega, by omega⟩, for_range (lo := b) (n := (b + m - b).toNat) (fun j σ H' => (∃ c6 c9, σ = [some (.ref a0), some (.int n), some (.ref a), some (.ref x), some (.int 1), some (.ref sp), c6, some (.int b), some (.int m), c9, c10]) ∧
              Wd A H' q3 Ls a x wh (mapS S 1 T b m "rw" false .non 0) τ15 (mapT T b m "rw" false .non 0) sp (1 + 8 * i + 1 + 1 + 1 + 1 + 1 + 1) (512 * i + j) (fun k => mpd T k || decide (b ≤ k ∧ k < b + (j : Nat)))) ⟨⟨_, _, rfl⟩, ?_⟩ ?_ ?_⟩
          · obtain ⟨ls, g1, g2, g3⟩ := W14.spx
            refine W14.space (fun _ _ _ h => h) g1 (fun k => ?_) g3
            rw [g2, decide_eq_false (by simp only [Int.natCast_zero]; omega)]
            simp
          · rintro j σ Z hj ⟨⟨c6', c9', rfl⟩, WZ⟩
            obtain ⟨ls, z2, z3, z4⟩ := WZ.spx
            refine ⟨_, rfl, _, rfl, sp, _, rfl, DPut.k (k := Sum.inl (b + (j : Nat))) z2 (Nat.lt_of_le_of_lt (by omega : ls.length ≤ 10000) (by decide)), ⟨_, _, rfl⟩, WZ.space But.up upd_same (fun k => ?_) (Nat.le_trans (length_putK _ _ _) (by omega))⟩
            rw [valV_put]
            by_cases ek : k = b + (j : Nat)
            · rw [if_pos (by rw [ek])]
              have : decide (b ≤ k ∧ k < b + ((j + 1 : Nat) : Int)) = true := decide_eq_true (by omega)
              rw [this]
              simp
            · rw [if_neg (fun z => ek (Sum.inl.inj z)), z3]
              have : decide (b ≤ k ∧ k < b + ((j + 1 : Nat) : Int)) = decide (b ≤ k ∧ k < b + (j : Nat)) := by rw [decide_eq_decide]; omega
              rw [this]
          · rintro σ Z ⟨⟨c6', c9', rfl⟩, WZ⟩
            rw [ec, ← mpd_map (T := T) b m "rw" false .non 0] at WZ
            exact ⟨_, _, _, _, _, _, _, rfl, WZ.mono (by omega) (by omega) (by omega)⟩
      · rintro σ H8 ⟨c6, c7, c8, c9, S, τ', T, rfl, W⟩
        have W := (W.mono (B' := 200) (ml' := 6656) (by omega) (by omega) (by omega))
        clear W0 W1 f7 w7
        -- widest
        refine ⟨_, rfl, _, rfl, ?_⟩
        dsimp only [tNil, List.cons_append, List.nil_append]
        refine ⟨x, wh, S, τ', _, .int 1, rfl, W.st.sy, .int _, livg W.eT, fun i' T' e1 e2 H9 s9 => ?_⟩
        rw [(only W.eT e1 e2).2]
        obtain ⟨ls, g1, g2, g3⟩ := W.spx
        have q9 := s9 _ _ g1
        refine ⟨_, rfl, sp, ls, mpd T, rfl, q9, g2, rfl, _, rfl, ?_⟩
        rw [decide_eq_true rfl]
        refine iteF ?_
        have W9 := W.same s9
        -- for many in ..
        refine ⟨_, rfl, sp, ls, mpd T, rfl, q9, g2, _, rfl, sp, ls, mpd T, rfl, q9, g2, _, _, rfl, rfl, _, rfl, ?_⟩
        refine drawI ⟨a, 512, _, rfl, by decide, by decide, W9.st.wl, by decide, fun e5 HA e50 e51 f9 w9 => ⟨1, e5, rfl, rfl, (by show 6 ≤ sizeLine; decide), fun q9' hq9 => ?_⟩⟩
        have WA := (W9.draw f9 w9).same (Same.new (o := .lst [V.int 1, V.int 2, V.int 512, V.int (topN (mpd T) 512), V.int (topN (mpd T) 512 + 1), V.int (1 + e5)]) hq9)
        have l9 : (upd HA q9' (.lst [V.int 1, V.int 2, V.int 512, V.int (topN (mpd T) 512), V.int (topN (mpd T) 512 + 1), V.int (1 + e5)])) q9' = some (.lst [V.int 1, V.int 2, V.int 512, V.int (topN (mpd T) 512), V.int (topN (mpd T) 512 + 1), V.int (1 + e5)]) := upd_same
        generalize hH10 : upd HA q9' (.lst [V.int 1, V.int 2, V.int 512, V.int (topN (mpd T) 512), V.int (topN (mpd T) 512 + 1), V.int (1 + e5)]) = HB at *
        have allI : ∀ y ∈ [V.int 1, V.int 2, V.int 512, V.int (topN (mpd T) 512), V.int (topN (mpd T) 512 + 1), V.int (1 + e5)], ∃ c : Int, y = .int c := fun y hy => by
          simp only [List.mem_cons, List.not_mem_nil, or_false] at hy
          rcases hy with rfl | rfl | rfl | rfl | rfl | rfl <;> exact ⟨_, rfl⟩
        generalize hL9 : [V.int 1, V.int 2, V.int 512, V.int (topN (mpd T) 512), V.int (topN (mpd T) 512 + 1), V.int (1 + e5)] = L9 at *
        clear hL9 hH10 hq9 W9 q9 f9 w9 W g1 g2 g3 s9
        refine ⟨q9', rfl, ⟨_, SqL.of l9⟩, for_list (K := K) (a := q9') (xs := L9)
          (fun _ σ H' => (∃ c6 c7 c8 c9, σ = [some (.ref a0), some (.int n), some (.ref a), some (.ref x), some (.int 1), some (.ref sp), c6, c7, c8, c9, c10]) ∧ Wd A H' q3 Ls a x wh S τ' T sp 201 6656 (mpd T) ∧ H' q9' = some (.lst L9))
          ⟨⟨_, _, _, _, rfl⟩, WA, l9⟩ (fun _ σ H' _ hp => SqL.of hp.2.2) ?_ ?_⟩
        · rintro _ y σ Z hy ⟨⟨c6, c7, c8, c9, rfl⟩, WZ, lz⟩
          obtain ⟨c, rfl⟩ := allI y (List.mem_of_getElem? hy)
          obtain ⟨sz, z2, z3, z4⟩ := WZ.spx
          refine ⟨_, rfl, _, _, rfl, rfl, _, rfl, iteB (fun y1 => ?_) (fun y1 => ?_)⟩
          · refine ⟨_, _, rfl, rfl, _, rfl, iteB (fun y2 => ?_) (fun y2 => ?_)⟩
            · have b1 := of_decide_eq_true y1
              have b2 := of_decide_eq_true y2
              refine ⟨_, rfl, _, rfl, _, rfl, x, wh, S, τ', _, .int 1, .int c, rfl, WZ.st.sy, .int _, .int _, livg WZ.eT, fun i' T' e1 e2 => ⟨noR b1 b2, fun c' ec _ _ Z2 s2 => ?_⟩⟩
              rw [(only WZ.eT e1 e2).2]
              have ec' := V.int.inj ec
              subst ec'
              refine ⟨_, rfl, _, rfl, sp, c, sz, mpd T, rfl, s2 _ _ z2, z3, ?_, _, rfl, ?_⟩
              · rcases (fits_any (mpd T) c Z2).2 with y | ⟨r, y⟩ <;> rw [y] <;> rfl
              · rw [decide_eq_true rfl]
                exact iteF ⟨⟨_, _, _, _, rfl⟩, WZ.same s2, s2 _ _ lz⟩
            · exact ⟨⟨_, _, _, _, rfl⟩, WZ, lz⟩
          · exact ⟨_, rfl, ⟨⟨_, _, _, _, rfl⟩, WZ, lz⟩⟩
        · rintro σ Z ⟨⟨c6, c7, c8, c9, rfl⟩, WZ, lz⟩
          clear WA l9
          -- what is refused
          refine ⟨_, rfl, _, rfl, _, rfl, a, x, wh, S, τ', _, T, rfl, WZ.st, by decide, WZ.eT, WZ.tn, fun Z2 F2 S2 => ⟨_, rfl, iteF ?_⟩⟩
          have W2 := WZ.frm F2 S2.wl S2.tb
          clear F2 S2
          -- many, due
          refine ⟨_, rfl, _, rfl, (by show 2 ≤ sizeLine; decide), fun q5 hq5 => ?_⟩
          have s5 := Same.new (o := .lst [.int 5, .int 512]) hq5
          refine one_of upd_same (nw W2.st.wl (Same.refl _) hq5) (by show 0 < 2; decide) (by show 2 < 1000; decide) (W2.st.wl.ext s5) (by decide) fun u Z3 hu f3 w3 => ?_
          have W3 := (W2.same s5).draw f3 w3
          obtain ⟨mm, rfl, m0, m1⟩ : ∃ b : Int, u = .int b ∧ 0 < b ∧ b ≤ 512 := by
            simp only [List.mem_cons, List.not_mem_nil, or_false] at hu
            rcases hu with rfl | rfl <;> exact ⟨_, rfl, by decide, by decide⟩
          refine drawI ⟨a, mm, _, rfl, m0, by omega, W3.st.wl, by decide, fun e6 Z4 e60 e61 f4 w4 => ⟨1, e6, rfl, rfl, ?_⟩⟩
          have W4 := W3.draw f4 w4
          obtain ⟨m, em, m2, m3⟩ : ∃ m : Int, 1 + e6 = m ∧ 1 ≤ m ∧ m ≤ 512 := ⟨_, rfl, by omega, by omega⟩
          dsimp only [gName, List.set]
          rw [em]
          clear W2 W3 f3 w3 f4 w4 hq5 hu em e60 e61 m0 m1 s5
          obtain ⟨s4, y2, y3, y4⟩ := W4.spx
          refine ⟨_, rfl, _, rfl, sp, m, s4, mpd T, rfl, y2, y3, ?_⟩
          dsimp only [gName, List.set]
          refine ⟨W4.st.tb, fun Z5 e5' T5 => ?_⟩
          have W5 := W4.frm (Frm.ext e5') (W4.st.ext e5' T5).wl T5
          refine ⟨_, rfl, _, rfl, _, rfl, x, wh, S, τ', .int 1, .int m, .str "rw", .bl false, .non, .int 0, .non, rfl, W5.st.sy, ⟨.int _, .int _, .str _, .bl _, .non, .int _, .non⟩, livg W5.eT, fun i' T' e1 e2 => ?_⟩
          obtain ⟨ei, eT'⟩ := only W5.eT e1 e2
          subst ei
          obtain rfl := eT'.symm
          refine ⟨noR m2 m3, fun c ec0 _ _ => ?_⟩
          have ec1 := V.int.inj ec0
          subst ec1
          refine ⟨fun z => absurd z (by decide +kernel), fun r er _ => ?_⟩
          have er1 := V.str.inj er
          subst er1
          refine ⟨fun z => (nomatch z), fun sh es => ?_⟩
          have es1 := V.bl.inj es
          subst es1
          refine ⟨fun _ => ?_, fun z => absurd rfl z.1, fun _ _ _ ea => (nomatch ea)⟩
          refine ⟨fun z => absurd z (by rw [if_pos rfl]; decide), fun ix ei x0 x1 _ => ?_⟩
          have ei1 := V.int.inj ei
          subst ei1
          rw [show placeV (mpd T) m .non = fits (mpd T) m from if_pos rfl]
          refine ⟨fun z => ?_, fun r er r0 r1 => ⟨fun e => (nomatch e), fun Z6 τ6 g6 S6 => ?_⟩⟩
          · have ef : fits (mpd T) m = .non := by
              rcases (fits_any (mpd T) m Z5).2 with y | ⟨r, y⟩
              · exact y
              · have h := fits_in m2 y
                rw [y] at z
                exact absurd ⟨h.1, h.2⟩ (of_decide_eq_false z)
            rw [ef]
            refine fun d0 Z6 s6 _ ed => .inl ⟨rfl, d0, .str "at", rfl, ed, fun q hq => ?_⟩
            refine ⟨_, rfl, (by show 2 ≤ sizeLine; decide), fun u1 hu1 => ⟨(by show 2 ≤ sizeLine; decide), fun u2 hu2 => ⟨_, rfl, .inr ⟨_, rfl, ?_⟩⟩⟩⟩
            rw [decide_eq_true rfl]
            have t1 := Same.new (o := .tup [.str "part", .str "at"]) hq
            have t2 := Same.new (o := .tup [.str "part", .str "at"]) hu1
            have t3 := Same.new (o := .lst [.non, .ref u1]) hu2
            refine ⟨u2, _, 1, .ref u1, rfl, rfl, SqL.of upd_same, rfl, .inr ⟨q, u1, _, rfl, rfl, SqT.of (t3 _ _ (t2 _ _ upd_same)), SqT.of (t3 _ _ upd_same), rfl, _, rfl, iteF ?_⟩⟩
            have W6 := W5.same (s6.trans (t1.trans (t2.trans t3)))
            exact ⟨⟨_, _, _, _, _, _, _, _, _, _, rfl⟩, W6.st.tb, W6.q⟩
          · rw [er]
            have W6 := W5.go g6 S6 (T' := mapT T r m "rw" false .non 0) rfl (fun j hj => by
              show (if j = 1 then _ else S.tabs j) = none
              rw [if_neg hj]
              exact W5.tn j hj)
            refine ⟨_, rfl, (by show 2 ≤ sizeLine; decide), fun u1 hu1 => ⟨(by show 2 ≤ sizeLine; decide), fun u2 hu2 => ⟨_, rfl, .inr ⟨_, rfl, ?_⟩⟩⟩⟩
            rw [decide_eq_false (by simp)]
            have t2 := Same.new (o := .tup [.str "part", .str "at"]) hu1
            have t3 := Same.new (o := .lst [.int r, .ref u1]) hu2
            refine ⟨u2, _, 0, .int r, rfl, rfl, SqL.of upd_same, rfl, .inl ⟨rfl, _, rfl, ?_⟩⟩
            rw [decide_eq_true rfl]
            have W7 := W6.same (t2.trans t3)
            exact iteF ⟨⟨_, _, _, _, _, _, _, _, _, _, rfl⟩, W7.st.tb, W7.q⟩
    · rintro σ H' ⟨⟨c1, c2, c3, c4, c5, c6, c7, c8, c9, c10, rfl⟩, T0, l0⟩
      exact k _
end
end My
set_option Elab.async false
set_option linter.all false
set_option maxRecDepth 100000
set_option maxHeartbeats 4000000
namespace My
open PySem L2
local macro_rules | `(tactic| walk_at "ds") => `(tactic| dsimp only [tSeq, tIfS, tTest, tB, tAnd, tOr, tNot, tAndV, tOrV, tNotV, tIf, tIsN, tNotN, tOp, tUn, tChain, rI, rI0, rU, tC, tCB, tCons, tNil, tAsg, gName, gSub, tRet, tRetN, tNext, tDrop, tLst, tTup, rIxL, rIxT, rSetL, tVar, tFld, tCall, tDGet, tDIn, tDNotIn, tNever, L2.start, List.map, List.replicate, List.length, List.append, List.cons_append, List.nil_append, List.set, Nat.sub])
local macro_rules | `(tactic| walk_at "hp") => `(tactic| first | assumption | exact upd_same | (refine Eq.trans (upd_ne (by first | assumption | (apply Ne.symm; assumption))) ?_; walk_at "hp"))
local macro_rules | `(tactic| walk_at "sd") => `(tactic| first
  | (show (_ : Int) ≠ 0; omega)
  | (refine (show CDivN _ _ from ⟨?_, ?_⟩) <;> omega)
  | (show CPow _ _; refine ⟨by omega, by omega, by omega⟩)
  | (show CMul _ _; exact Or.inl ⟨by omega, by omega⟩)
  | (show CMul _ _; exact Or.inr ⟨by omega, by omega⟩))
local macro_rules | `(tactic| walk_at "st") => `(tactic| first
  | refine ⟨_, rfl, ?_⟩
  | refine ⟨_, _, rfl, rfl, (by walk_at "sd"), ?_⟩
  | refine ⟨_, _, rfl, rfl, ?_⟩
  | refine ⟨_, _, _, _, rfl, rfl, SqL.of (by walk_at "hp"), rfl, ?_⟩
  | refine ⟨_, _, _, _, rfl, rfl, (by walk_at "hp"), rfl, ?_⟩
  | refine .inl ⟨_, rfl, ?_⟩
  | refine ⟨_, _, _, _, _, rfl, (by walk_at "hp"), (by assumption), (by assumption), rfl, ?_⟩
  | refine ⟨_, _, rfl, .inl (SqL.of (by walk_at "hp")), ?_⟩)
local macro_rules | `(tactic| walk_at "go") => `(tactic| repeat (first | walk_at "st" | (walk_at "ds"; walk_at "st")))
local macro_rules | `(tactic| walk_at "ni") => `(tactic| dsimp (config := { proj := false }) only [tNil, List.cons_append, List.nil_append])
open PySem L2
theorem all_mk {K : PySem.W.Frag} {h : Heap} {mg : Str → Option Value} (X : K.In h) (G : h.Ns mainGlobals mg)
    {f_attributes : Addr} {od_attributes an_attributes : Option Addr} {sl_attributes : Array (Option Value)} {oc_attributes dc_attributes pm_attributes ct_attributes : Value} {cd_attributes : Value}
    {kV_attributes : Value}
    {f_has_object : Addr} {od_has_object an_has_object : Option Addr} {sl_has_object : Array (Option Value)} {oc_has_object dc_has_object pm_has_object ct_has_object : Value} {cd_has_object : Value}
    {kV_has_object : Value}
    {f_arrange_locked : Addr} {od_arrange_locked an_arrange_locked : Option Addr} {sl_arrange_locked : Array (Option Value)} {oc_arrange_locked dc_arrange_locked pm_arrange_locked ct_arrange_locked : Value} {cd_arrange_locked : Value}
    {kV_arrange_locked : Value}
    {f_add_locked : Addr} {od_add_locked an_add_locked : Option Addr} {sl_add_locked : Array (Option Value)} {oc_add_locked dc_add_locked pm_add_locked ct_add_locked : Value} {cd_add_locked : Value}
    {kV_add_locked : Value}
    {f_this_step : Addr} {od_this_step an_this_step : Option Addr} {sl_this_step : Array (Option Value)} {oc_this_step dc_this_step pm_this_step ct_this_step : Value} {cd_this_step : Value}
    {kV_this_step : Value}
    {f_count_page : Addr} {od_count_page an_count_page : Option Addr} {sl_count_page : Array (Option Value)} {oc_count_page dc_count_page pm_count_page ct_count_page : Value} {cd_count_page : Value}
    {kV_count_page : Value}
    {f_discount_page : Addr} {od_discount_page an_discount_page : Option Addr} {sl_discount_page : Array (Option Value)} {oc_discount_page dc_discount_page pm_discount_page ct_discount_page : Value} {cd_discount_page : Value}
    {kV_discount_page : Value}
    {f_discount_user : Addr} {od_discount_user an_discount_user : Option Addr} {sl_discount_user : Array (Option Value)} {oc_discount_user dc_discount_user pm_discount_user ct_discount_user : Value} {cd_discount_user : Value}
    {kV_discount_user : Value}
    {f_replace_pages : Addr} {od_replace_pages an_replace_pages : Option Addr} {sl_replace_pages : Array (Option Value)} {oc_replace_pages dc_replace_pages pm_replace_pages ct_replace_pages : Value} {cd_replace_pages : Value}
    {kV_replace_pages : Value}
    {f_end_step : Addr} {od_end_step an_end_step : Option Addr} {sl_end_step : Array (Option Value)} {oc_end_step dc_end_step pm_end_step ct_end_step : Value} {cd_end_step : Value}
    {kV_end_step : Value}
    {f_is_integer : Addr} {od_is_integer an_is_integer : Option Addr} {sl_is_integer : Array (Option Value)} {oc_is_integer dc_is_integer pm_is_integer ct_is_integer : Value} {cd_is_integer : Value}
    {kV_is_integer : Value}
    {f_is_word : Addr} {od_is_word an_is_word : Option Addr} {sl_is_word : Array (Option Value)} {oc_is_word dc_is_word pm_is_word ct_is_word : Value} {cd_is_word : Value}
    {kV_is_word : Value}
    {f_require : Addr} {od_require an_require : Option Addr} {sl_require : Array (Option Value)} {oc_require dc_require pm_require ct_require : Value} {cd_require : Value}
    {kV_require : Value}
    {f_table_of : Addr} {od_table_of an_table_of : Option Addr} {sl_table_of : Array (Option Value)} {oc_table_of dc_table_of pm_table_of ct_table_of : Value} {cd_table_of : Value}
    {kV_table_of : Value}
    {f_numbers_of : Addr} {od_numbers_of an_numbers_of : Option Addr} {sl_numbers_of : Array (Option Value)} {oc_numbers_of dc_numbers_of pm_numbers_of ct_numbers_of : Value} {cd_numbers_of : Value}
    {kV_numbers_of : Value}
    {f_file_of : Addr} {od_file_of an_file_of : Option Addr} {sl_file_of : Array (Option Value)} {oc_file_of dc_file_of pm_file_of ct_file_of : Value} {cd_file_of : Value}
    {kV_file_of : Value}
    {f_require_charge : Addr} {od_require_charge an_require_charge : Option Addr} {sl_require_charge : Array (Option Value)} {oc_require_charge dc_require_charge pm_require_charge ct_require_charge : Value} {cd_require_charge : Value}
    {kV_require_charge : Value}
    {f_require_source : Addr} {od_require_source an_require_source : Option Addr} {sl_require_source : Array (Option Value)} {oc_require_source dc_require_source pm_require_source ct_require_source : Value} {cd_require_source : Value}
    {kV_require_source : Value}
    {f_place_for : Addr} {od_place_for an_place_for : Option Addr} {sl_place_for : Array (Option Value)} {oc_place_for dc_place_for pm_place_for ct_place_for : Value} {cd_place_for : Value}
    {kV_place_for : Value}
    {f_map_pages : Addr} {od_map_pages an_map_pages : Option Addr} {sl_map_pages : Array (Option Value)} {oc_map_pages dc_map_pages pm_map_pages ct_map_pages : Value} {cd_map_pages : Value}
    {kD_map_pages : Addr}
    {tk_rights : Tok}
    {tk_index : Tok}
    {f_new_pages : Addr} {od_new_pages an_new_pages : Option Addr} {sl_new_pages : Array (Option Value)} {oc_new_pages dc_new_pages pm_new_pages ct_new_pages : Value} {cd_new_pages : Value}
    {kV_new_pages : Value}
    {f_unmap : Addr} {od_unmap an_unmap : Option Addr} {sl_unmap : Array (Option Value)} {oc_unmap dc_unmap pm_unmap ct_unmap : Value} {cd_unmap : Value}
    {kV_unmap : Value}
    {f_continues : Addr} {od_continues an_continues : Option Addr} {sl_continues : Array (Option Value)} {oc_continues dc_continues pm_continues ct_continues : Value} {cd_continues : Value}
    {kV_continues : Value}
    {f_regions : Addr} {od_regions an_regions : Option Addr} {sl_regions : Array (Option Value)} {oc_regions dc_regions pm_regions ct_regions : Value} {cd_regions : Value}
    {kV_regions : Value}
    {f_free_runs : Addr} {od_free_runs an_free_runs : Option Addr} {sl_free_runs : Array (Option Value)} {oc_free_runs dc_free_runs pm_free_runs ct_free_runs : Value} {cd_free_runs : Value}
    {kV_free_runs : Value}
    {f_lowest_gap : Addr} {od_lowest_gap an_lowest_gap : Option Addr} {sl_lowest_gap : Array (Option Value)} {oc_lowest_gap dc_lowest_gap pm_lowest_gap ct_lowest_gap : Value} {cd_lowest_gap : Value}
    {kV_lowest_gap : Value}
    {f_gap : Addr} {od_gap an_gap : Option Addr} {sl_gap : Array (Option Value)} {oc_gap dc_gap pm_gap ct_gap : Value} {cd_gap : Value}
    {kV_gap : Value}
    {f_widest : Addr} {od_widest an_widest : Option Addr} {sl_widest : Array (Option Value)} {oc_widest dc_widest pm_widest ct_widest : Value} {cd_widest : Value}
    {kV_widest : Value}
    {f_new_process : Addr} {od_new_process an_new_process : Option Addr} {sl_new_process : Array (Option Value)} {oc_new_process dc_new_process pm_new_process ct_new_process : Value} {cd_new_process : Value}
    {kV_new_process : Value}
    {f_spawn : Addr} {od_spawn an_spawn : Option Addr} {sl_spawn : Array (Option Value)} {oc_spawn dc_spawn pm_spawn ct_spawn : Value} {cd_spawn : Value}
    {kV_spawn : Value}
    {f__law_well : Addr} {od__law_well an__law_well : Option Addr} {sl__law_well : Array (Option Value)} {oc__law_well dc__law_well pm__law_well ct__law_well : Value} {cd__law_well : Value}
    {kV__law_well : Value}
    {f__law_draw : Addr} {od__law_draw an__law_draw : Option Addr} {sl__law_draw : Array (Option Value)} {oc__law_draw dc__law_draw pm__law_draw ct__law_draw : Value} {cd__law_draw : Value}
    {kV__law_draw : Value}
    {f__law_one : Addr} {od__law_one an__law_one : Option Addr} {sl__law_one : Array (Option Value)} {oc__law_one dc__law_one pm__law_one ct__law_one : Value} {cd__law_one : Value}
    {kV__law_one : Value}
    {f__law_fits : Addr} {od__law_fits an__law_fits : Option Addr} {sl__law_fits : Array (Option Value)} {oc__law_fits dc__law_fits pm__law_fits ct__law_fits : Value} {cd__law_fits : Value}
    {kV__law_fits : Value}
    {f__law_said : Addr} {od__law_said an__law_said : Option Addr} {sl__law_said : Array (Option Value)} {oc__law_said dc__law_said pm__law_said ct__law_said : Value} {cd__law_said : Value}
    {kV__law_said : Value}
    {f__law_widest : Addr} {od__law_widest an__law_widest : Option Addr} {sl__law_widest : Array (Option Value)} {oc__law_widest dc__law_widest pm__law_widest ct__law_widest : Value} {cd__law_widest : Value}
    {kV__law_widest : Value}
    {f__law_refused : Addr} {od__law_refused an__law_refused : Option Addr} {sl__law_refused : Array (Option Value)} {oc__law_refused dc__law_refused pm__law_refused ct__law_refused : Value} {co__law_refused ta__law_refused : Addr}
    {kV__law_refused : Value}
    {f_law : Addr} {od_law an_law : Option Addr} {sl_law : Array (Option Value)} {oc_law dc_law pm_law ct_law : Value} {co_law ta_law : Addr}
    {kV_law : Value}
    {C_NoProcess : Addr}
    {C_NoPages : Addr}
    {C_NoFile : Addr}
    {C_PageError : Addr}
    {C_System : Addr}
    {C_Page : Addr}
    {C_History : Addr}
    {f_NoProcess_init : Addr} {od_NoProcess_init an_NoProcess_init : Option Addr} {sl_NoProcess_init : Array (Option Value)} {oc_NoProcess_init dc_NoProcess_init pm_NoProcess_init ct_NoProcess_init : Value} {cd_NoProcess_init : Value}
    {kV_NoProcess_init : Value}
    {f_NoPages_init : Addr} {od_NoPages_init an_NoPages_init : Option Addr} {sl_NoPages_init : Array (Option Value)} {oc_NoPages_init dc_NoPages_init pm_NoPages_init ct_NoPages_init : Value} {cd_NoPages_init : Value}
    {kV_NoPages_init : Value}
    {f_NoFile_init : Addr} {od_NoFile_init an_NoFile_init : Option Addr} {sl_NoFile_init : Array (Option Value)} {oc_NoFile_init dc_NoFile_init pm_NoFile_init ct_NoFile_init : Value} {cd_NoFile_init : Value}
    {kV_NoFile_init : Value}
    {f_Page_init : Addr} {od_Page_init an_Page_init : Option Addr} {sl_Page_init : Array (Option Value)} {oc_Page_init dc_Page_init pm_Page_init ct_Page_init : Value} {cd_Page_init : Value}
    {kV_Page_init : Value}
    {f_History_init : Addr} {od_History_init an_History_init : Option Addr} {sl_History_init : Array (Option Value)} {oc_History_init dc_History_init pm_History_init ct_History_init : Value} {cd_History_init : Value}
    {kV_History_init : Value}
    {f_System_init : Addr} {od_System_init an_System_init : Option Addr} {sl_System_init : Array (Option Value)} {oc_System_init dc_System_init pm_System_init ct_System_init : Value} {cd_System_init : Value}
    {kD_System_init : Addr}
    {nm_NoProcess q_NoProcess : Str} {N_NoProcess : Addr} {bs_NoProcess bm_NoProcess sub_NoProcess : List Value} {sn_NoProcess : List Str} {ab_NoProcess : Bool} {col_NoProcess : Option Bool} {dd_NoProcess : Option Addr} {m0_NoProcess m1_NoProcess m2_NoProcess m3_NoProcess m5_NoProcess : Option Value}
    {nm_NoPages q_NoPages : Str} {N_NoPages : Addr} {bs_NoPages bm_NoPages sub_NoPages : List Value} {sn_NoPages : List Str} {ab_NoPages : Bool} {col_NoPages : Option Bool} {dd_NoPages : Option Addr} {m0_NoPages m1_NoPages m2_NoPages m3_NoPages m5_NoPages : Option Value}
    {nm_NoFile q_NoFile : Str} {N_NoFile : Addr} {bs_NoFile bm_NoFile sub_NoFile : List Value} {sn_NoFile : List Str} {ab_NoFile : Bool} {col_NoFile : Option Bool} {dd_NoFile : Option Addr} {m0_NoFile m1_NoFile m2_NoFile m3_NoFile m5_NoFile : Option Value}
    {nm_PageError q_PageError : Str} {N_PageError : Addr} {bs_PageError bm_PageError sub_PageError : List Value} {sn_PageError : List Str} {ab_PageError : Bool} {col_PageError : Option Bool} {dd_PageError : Option Addr} {m0_PageError m1_PageError m2_PageError m3_PageError m5_PageError : Option Value}
    {t_PAGES : Tok}
    {o_RIGHTS : Addr}
    (h_attributes : PySem.W.nsIn K mainGlobals "attributes" = some (some (.ref f_attributes)))
    (l_attributes : K.lookup f_attributes = some ⟨oc_attributes, od_attributes, .func (PySem.W.fnOf "attributes" "attributes" (defArgs s_attributes) (defBody s_attributes) (defScope s_attributes) .none kV_attributes dc_attributes pm_attributes an_attributes cd_attributes ct_attributes), sl_attributes⟩)
    (c_attributes : PySem.W.codeIn K cd_attributes "attributes" = true)
    (k_attributes : PySem.W.keepIn K (.ref f_attributes) = true)
    (h_has_object : PySem.W.nsIn K mainGlobals "has_object" = some (some (.ref f_has_object)))
    (l_has_object : K.lookup f_has_object = some ⟨oc_has_object, od_has_object, .func (PySem.W.fnOf "has_object" "has_object" (defArgs s_has_object) (defBody s_has_object) (defScope s_has_object) .none kV_has_object dc_has_object pm_has_object an_has_object cd_has_object ct_has_object), sl_has_object⟩)
    (c_has_object : PySem.W.codeIn K cd_has_object "has_object" = true)
    (k_has_object : PySem.W.keepIn K (.ref f_has_object) = true)
    (h_arrange_locked : PySem.W.nsIn K mainGlobals "arrange_locked" = some (some (.ref f_arrange_locked)))
    (l_arrange_locked : K.lookup f_arrange_locked = some ⟨oc_arrange_locked, od_arrange_locked, .func (PySem.W.fnOf "arrange_locked" "arrange_locked" (defArgs s_arrange_locked) (defBody s_arrange_locked) (defScope s_arrange_locked) .none kV_arrange_locked dc_arrange_locked pm_arrange_locked an_arrange_locked cd_arrange_locked ct_arrange_locked), sl_arrange_locked⟩)
    (c_arrange_locked : PySem.W.codeIn K cd_arrange_locked "arrange_locked" = true)
    (k_arrange_locked : PySem.W.keepIn K (.ref f_arrange_locked) = true)
    (h_add_locked : PySem.W.nsIn K mainGlobals "add_locked" = some (some (.ref f_add_locked)))
    (l_add_locked : K.lookup f_add_locked = some ⟨oc_add_locked, od_add_locked, .func (PySem.W.fnOf "add_locked" "add_locked" (defArgs s_add_locked) (defBody s_add_locked) (defScope s_add_locked) .none kV_add_locked dc_add_locked pm_add_locked an_add_locked cd_add_locked ct_add_locked), sl_add_locked⟩)
    (c_add_locked : PySem.W.codeIn K cd_add_locked "add_locked" = true)
    (k_add_locked : PySem.W.keepIn K (.ref f_add_locked) = true)
    (h_this_step : PySem.W.nsIn K mainGlobals "this_step" = some (some (.ref f_this_step)))
    (l_this_step : K.lookup f_this_step = some ⟨oc_this_step, od_this_step, .func (PySem.W.fnOf "this_step" "this_step" (defArgs s_this_step) (defBody s_this_step) (defScope s_this_step) .none kV_this_step dc_this_step pm_this_step an_this_step cd_this_step ct_this_step), sl_this_step⟩)
    (c_this_step : PySem.W.codeIn K cd_this_step "this_step" = true)
    (k_this_step : PySem.W.keepIn K (.ref f_this_step) = true)
    (h_count_page : PySem.W.nsIn K mainGlobals "count_page" = some (some (.ref f_count_page)))
    (l_count_page : K.lookup f_count_page = some ⟨oc_count_page, od_count_page, .func (PySem.W.fnOf "count_page" "count_page" (defArgs s_count_page) (defBody s_count_page) (defScope s_count_page) .none kV_count_page dc_count_page pm_count_page an_count_page cd_count_page ct_count_page), sl_count_page⟩)
    (c_count_page : PySem.W.codeIn K cd_count_page "count_page" = true)
    (k_count_page : PySem.W.keepIn K (.ref f_count_page) = true)
    (h_discount_page : PySem.W.nsIn K mainGlobals "discount_page" = some (some (.ref f_discount_page)))
    (l_discount_page : K.lookup f_discount_page = some ⟨oc_discount_page, od_discount_page, .func (PySem.W.fnOf "discount_page" "discount_page" (defArgs s_discount_page) (defBody s_discount_page) (defScope s_discount_page) .none kV_discount_page dc_discount_page pm_discount_page an_discount_page cd_discount_page ct_discount_page), sl_discount_page⟩)
    (c_discount_page : PySem.W.codeIn K cd_discount_page "discount_page" = true)
    (k_discount_page : PySem.W.keepIn K (.ref f_discount_page) = true)
    (h_discount_user : PySem.W.nsIn K mainGlobals "discount_user" = some (some (.ref f_discount_user)))
    (l_discount_user : K.lookup f_discount_user = some ⟨oc_discount_user, od_discount_user, .func (PySem.W.fnOf "discount_user" "discount_user" (defArgs s_discount_user) (defBody s_discount_user) (defScope s_discount_user) .none kV_discount_user dc_discount_user pm_discount_user an_discount_user cd_discount_user ct_discount_user), sl_discount_user⟩)
    (c_discount_user : PySem.W.codeIn K cd_discount_user "discount_user" = true)
    (k_discount_user : PySem.W.keepIn K (.ref f_discount_user) = true)
    (h_replace_pages : PySem.W.nsIn K mainGlobals "replace_pages" = some (some (.ref f_replace_pages)))
    (l_replace_pages : K.lookup f_replace_pages = some ⟨oc_replace_pages, od_replace_pages, .func (PySem.W.fnOf "replace_pages" "replace_pages" (defArgs s_replace_pages) (defBody s_replace_pages) (defScope s_replace_pages) .none kV_replace_pages dc_replace_pages pm_replace_pages an_replace_pages cd_replace_pages ct_replace_pages), sl_replace_pages⟩)
    (c_replace_pages : PySem.W.codeIn K cd_replace_pages "replace_pages" = true)
    (k_replace_pages : PySem.W.keepIn K (.ref f_replace_pages) = true)
    (h_end_step : PySem.W.nsIn K mainGlobals "end_step" = some (some (.ref f_end_step)))
    (l_end_step : K.lookup f_end_step = some ⟨oc_end_step, od_end_step, .func (PySem.W.fnOf "end_step" "end_step" (defArgs s_end_step) (defBody s_end_step) (defScope s_end_step) .none kV_end_step dc_end_step pm_end_step an_end_step cd_end_step ct_end_step), sl_end_step⟩)
    (c_end_step : PySem.W.codeIn K cd_end_step "end_step" = true)
    (k_end_step : PySem.W.keepIn K (.ref f_end_step) = true)
    (h_is_integer : PySem.W.nsIn K mainGlobals "is_integer" = some (some (.ref f_is_integer)))
    (l_is_integer : K.lookup f_is_integer = some ⟨oc_is_integer, od_is_integer, .func (PySem.W.fnOf "is_integer" "is_integer" (defArgs s_is_integer) (defBody s_is_integer) (defScope s_is_integer) .none kV_is_integer dc_is_integer pm_is_integer an_is_integer cd_is_integer ct_is_integer), sl_is_integer⟩)
    (c_is_integer : PySem.W.codeIn K cd_is_integer "is_integer" = true)
    (k_is_integer : PySem.W.keepIn K (.ref f_is_integer) = true)
    (h_is_word : PySem.W.nsIn K mainGlobals "is_word" = some (some (.ref f_is_word)))
    (l_is_word : K.lookup f_is_word = some ⟨oc_is_word, od_is_word, .func (PySem.W.fnOf "is_word" "is_word" (defArgs s_is_word) (defBody s_is_word) (defScope s_is_word) .none kV_is_word dc_is_word pm_is_word an_is_word cd_is_word ct_is_word), sl_is_word⟩)
    (c_is_word : PySem.W.codeIn K cd_is_word "is_word" = true)
    (k_is_word : PySem.W.keepIn K (.ref f_is_word) = true)
    (h_require : PySem.W.nsIn K mainGlobals "require" = some (some (.ref f_require)))
    (l_require : K.lookup f_require = some ⟨oc_require, od_require, .func (PySem.W.fnOf "require" "require" (defArgs s_require) (defBody s_require) (defScope s_require) .none kV_require dc_require pm_require an_require cd_require ct_require), sl_require⟩)
    (c_require : PySem.W.codeIn K cd_require "require" = true)
    (k_require : PySem.W.keepIn K (.ref f_require) = true)
    (h_table_of : PySem.W.nsIn K mainGlobals "table_of" = some (some (.ref f_table_of)))
    (l_table_of : K.lookup f_table_of = some ⟨oc_table_of, od_table_of, .func (PySem.W.fnOf "table_of" "table_of" (defArgs s_table_of) (defBody s_table_of) (defScope s_table_of) .none kV_table_of dc_table_of pm_table_of an_table_of cd_table_of ct_table_of), sl_table_of⟩)
    (c_table_of : PySem.W.codeIn K cd_table_of "table_of" = true)
    (k_table_of : PySem.W.keepIn K (.ref f_table_of) = true)
    (h_numbers_of : PySem.W.nsIn K mainGlobals "numbers_of" = some (some (.ref f_numbers_of)))
    (l_numbers_of : K.lookup f_numbers_of = some ⟨oc_numbers_of, od_numbers_of, .func (PySem.W.fnOf "numbers_of" "numbers_of" (defArgs s_numbers_of) (defBody s_numbers_of) (defScope s_numbers_of) .none kV_numbers_of dc_numbers_of pm_numbers_of an_numbers_of cd_numbers_of ct_numbers_of), sl_numbers_of⟩)
    (c_numbers_of : PySem.W.codeIn K cd_numbers_of "numbers_of" = true)
    (k_numbers_of : PySem.W.keepIn K (.ref f_numbers_of) = true)
    (h_file_of : PySem.W.nsIn K mainGlobals "file_of" = some (some (.ref f_file_of)))
    (l_file_of : K.lookup f_file_of = some ⟨oc_file_of, od_file_of, .func (PySem.W.fnOf "file_of" "file_of" (defArgs s_file_of) (defBody s_file_of) (defScope s_file_of) .none kV_file_of dc_file_of pm_file_of an_file_of cd_file_of ct_file_of), sl_file_of⟩)
    (c_file_of : PySem.W.codeIn K cd_file_of "file_of" = true)
    (k_file_of : PySem.W.keepIn K (.ref f_file_of) = true)
    (h_require_charge : PySem.W.nsIn K mainGlobals "require_charge" = some (some (.ref f_require_charge)))
    (l_require_charge : K.lookup f_require_charge = some ⟨oc_require_charge, od_require_charge, .func (PySem.W.fnOf "require_charge" "require_charge" (defArgs s_require_charge) (defBody s_require_charge) (defScope s_require_charge) .none kV_require_charge dc_require_charge pm_require_charge an_require_charge cd_require_charge ct_require_charge), sl_require_charge⟩)
    (c_require_charge : PySem.W.codeIn K cd_require_charge "require_charge" = true)
    (k_require_charge : PySem.W.keepIn K (.ref f_require_charge) = true)
    (h_require_source : PySem.W.nsIn K mainGlobals "require_source" = some (some (.ref f_require_source)))
    (l_require_source : K.lookup f_require_source = some ⟨oc_require_source, od_require_source, .func (PySem.W.fnOf "require_source" "require_source" (defArgs s_require_source) (defBody s_require_source) (defScope s_require_source) .none kV_require_source dc_require_source pm_require_source an_require_source cd_require_source ct_require_source), sl_require_source⟩)
    (c_require_source : PySem.W.codeIn K cd_require_source "require_source" = true)
    (k_require_source : PySem.W.keepIn K (.ref f_require_source) = true)
    (h_place_for : PySem.W.nsIn K mainGlobals "place_for" = some (some (.ref f_place_for)))
    (l_place_for : K.lookup f_place_for = some ⟨oc_place_for, od_place_for, .func (PySem.W.fnOf "place_for" "place_for" (defArgs s_place_for) (defBody s_place_for) (defScope s_place_for) .none kV_place_for dc_place_for pm_place_for an_place_for cd_place_for ct_place_for), sl_place_for⟩)
    (c_place_for : PySem.W.codeIn K cd_place_for "place_for" = true)
    (k_place_for : PySem.W.keepIn K (.ref f_place_for) = true)
    (h_map_pages : PySem.W.nsIn K mainGlobals "map_pages" = some (some (.ref f_map_pages)))
    (l_map_pages : K.lookup f_map_pages = some ⟨oc_map_pages, od_map_pages, .func (PySem.W.fnOf "map_pages" "map_pages" (defArgs s_map_pages) (defBody s_map_pages) (defScope s_map_pages) .none (.ref kD_map_pages) dc_map_pages pm_map_pages an_map_pages cd_map_pages ct_map_pages), sl_map_pages⟩)
    (c_map_pages : PySem.W.codeIn K cd_map_pages "map_pages" = true)
    (k_map_pages : PySem.W.keepIn K (.ref f_map_pages) = true)
    (kd_map_pages_rights : PySem.W.nsIn K kD_map_pages "rights" = some (some (.str "rw" tk_rights)))
    (kd_map_pages_shared : PySem.W.nsIn K kD_map_pages "shared" = some (some (.bool false)))
    (kd_map_pages_source : PySem.W.nsIn K kD_map_pages "source" = some (some .none))
    (kd_map_pages_index : PySem.W.nsIn K kD_map_pages "index" = some (some (.int 0 tk_index)))
    (kd_map_pages_at : PySem.W.nsIn K kD_map_pages "at" = some (some .none))
    (h_new_pages : PySem.W.nsIn K mainGlobals "new_pages" = some (some (.ref f_new_pages)))
    (l_new_pages : K.lookup f_new_pages = some ⟨oc_new_pages, od_new_pages, .func (PySem.W.fnOf "new_pages" "new_pages" (defArgs s_new_pages) (defBody s_new_pages) (defScope s_new_pages) .none kV_new_pages dc_new_pages pm_new_pages an_new_pages cd_new_pages ct_new_pages), sl_new_pages⟩)
    (c_new_pages : PySem.W.codeIn K cd_new_pages "new_pages" = true)
    (k_new_pages : PySem.W.keepIn K (.ref f_new_pages) = true)
    (h_unmap : PySem.W.nsIn K mainGlobals "unmap" = some (some (.ref f_unmap)))
    (l_unmap : K.lookup f_unmap = some ⟨oc_unmap, od_unmap, .func (PySem.W.fnOf "unmap" "unmap" (defArgs s_unmap) (defBody s_unmap) (defScope s_unmap) .none kV_unmap dc_unmap pm_unmap an_unmap cd_unmap ct_unmap), sl_unmap⟩)
    (c_unmap : PySem.W.codeIn K cd_unmap "unmap" = true)
    (k_unmap : PySem.W.keepIn K (.ref f_unmap) = true)
    (h_continues : PySem.W.nsIn K mainGlobals "continues" = some (some (.ref f_continues)))
    (l_continues : K.lookup f_continues = some ⟨oc_continues, od_continues, .func (PySem.W.fnOf "continues" "continues" (defArgs s_continues) (defBody s_continues) (defScope s_continues) .none kV_continues dc_continues pm_continues an_continues cd_continues ct_continues), sl_continues⟩)
    (c_continues : PySem.W.codeIn K cd_continues "continues" = true)
    (k_continues : PySem.W.keepIn K (.ref f_continues) = true)
    (h_regions : PySem.W.nsIn K mainGlobals "regions" = some (some (.ref f_regions)))
    (l_regions : K.lookup f_regions = some ⟨oc_regions, od_regions, .func (PySem.W.fnOf "regions" "regions" (defArgs s_regions) (defBody s_regions) (defScope s_regions) .none kV_regions dc_regions pm_regions an_regions cd_regions ct_regions), sl_regions⟩)
    (c_regions : PySem.W.codeIn K cd_regions "regions" = true)
    (k_regions : PySem.W.keepIn K (.ref f_regions) = true)
    (h_free_runs : PySem.W.nsIn K mainGlobals "free_runs" = some (some (.ref f_free_runs)))
    (l_free_runs : K.lookup f_free_runs = some ⟨oc_free_runs, od_free_runs, .func (PySem.W.fnOf "free_runs" "free_runs" (defArgs s_free_runs) (defBody s_free_runs) (defScope s_free_runs) .none kV_free_runs dc_free_runs pm_free_runs an_free_runs cd_free_runs ct_free_runs), sl_free_runs⟩)
    (c_free_runs : PySem.W.codeIn K cd_free_runs "free_runs" = true)
    (k_free_runs : PySem.W.keepIn K (.ref f_free_runs) = true)
    (h_lowest_gap : PySem.W.nsIn K mainGlobals "lowest_gap" = some (some (.ref f_lowest_gap)))
    (l_lowest_gap : K.lookup f_lowest_gap = some ⟨oc_lowest_gap, od_lowest_gap, .func (PySem.W.fnOf "lowest_gap" "lowest_gap" (defArgs s_lowest_gap) (defBody s_lowest_gap) (defScope s_lowest_gap) .none kV_lowest_gap dc_lowest_gap pm_lowest_gap an_lowest_gap cd_lowest_gap ct_lowest_gap), sl_lowest_gap⟩)
    (c_lowest_gap : PySem.W.codeIn K cd_lowest_gap "lowest_gap" = true)
    (k_lowest_gap : PySem.W.keepIn K (.ref f_lowest_gap) = true)
    (h_gap : PySem.W.nsIn K mainGlobals "gap" = some (some (.ref f_gap)))
    (l_gap : K.lookup f_gap = some ⟨oc_gap, od_gap, .func (PySem.W.fnOf "gap" "gap" (defArgs s_gap) (defBody s_gap) (defScope s_gap) .none kV_gap dc_gap pm_gap an_gap cd_gap ct_gap), sl_gap⟩)
    (c_gap : PySem.W.codeIn K cd_gap "gap" = true)
    (k_gap : PySem.W.keepIn K (.ref f_gap) = true)
    (h_widest : PySem.W.nsIn K mainGlobals "widest" = some (some (.ref f_widest)))
    (l_widest : K.lookup f_widest = some ⟨oc_widest, od_widest, .func (PySem.W.fnOf "widest" "widest" (defArgs s_widest) (defBody s_widest) (defScope s_widest) .none kV_widest dc_widest pm_widest an_widest cd_widest ct_widest), sl_widest⟩)
    (c_widest : PySem.W.codeIn K cd_widest "widest" = true)
    (k_widest : PySem.W.keepIn K (.ref f_widest) = true)
    (h_new_process : PySem.W.nsIn K mainGlobals "new_process" = some (some (.ref f_new_process)))
    (l_new_process : K.lookup f_new_process = some ⟨oc_new_process, od_new_process, .func (PySem.W.fnOf "new_process" "new_process" (defArgs s_new_process) (defBody s_new_process) (defScope s_new_process) .none kV_new_process dc_new_process pm_new_process an_new_process cd_new_process ct_new_process), sl_new_process⟩)
    (c_new_process : PySem.W.codeIn K cd_new_process "new_process" = true)
    (k_new_process : PySem.W.keepIn K (.ref f_new_process) = true)
    (h_spawn : PySem.W.nsIn K mainGlobals "spawn" = some (some (.ref f_spawn)))
    (l_spawn : K.lookup f_spawn = some ⟨oc_spawn, od_spawn, .func (PySem.W.fnOf "spawn" "spawn" (defArgs s_spawn) (defBody s_spawn) (defScope s_spawn) .none kV_spawn dc_spawn pm_spawn an_spawn cd_spawn ct_spawn), sl_spawn⟩)
    (c_spawn : PySem.W.codeIn K cd_spawn "spawn" = true)
    (k_spawn : PySem.W.keepIn K (.ref f_spawn) = true)
    (h__law_well : PySem.W.nsIn K mainGlobals "_law_well" = some (some (.ref f__law_well)))
    (l__law_well : K.lookup f__law_well = some ⟨oc__law_well, od__law_well, .func (PySem.W.fnOf "_law_well" "_law_well" (defArgs s__law_well) (defBody s__law_well) (defScope s__law_well) .none kV__law_well dc__law_well pm__law_well an__law_well cd__law_well ct__law_well), sl__law_well⟩)
    (c__law_well : PySem.W.codeIn K cd__law_well "_law_well" = true)
    (k__law_well : PySem.W.keepIn K (.ref f__law_well) = true)
    (h__law_draw : PySem.W.nsIn K mainGlobals "_law_draw" = some (some (.ref f__law_draw)))
    (l__law_draw : K.lookup f__law_draw = some ⟨oc__law_draw, od__law_draw, .func (PySem.W.fnOf "_law_draw" "_law_draw" (defArgs s__law_draw) (defBody s__law_draw) (defScope s__law_draw) .none kV__law_draw dc__law_draw pm__law_draw an__law_draw cd__law_draw ct__law_draw), sl__law_draw⟩)
    (c__law_draw : PySem.W.codeIn K cd__law_draw "_law_draw" = true)
    (k__law_draw : PySem.W.keepIn K (.ref f__law_draw) = true)
    (h__law_one : PySem.W.nsIn K mainGlobals "_law_one" = some (some (.ref f__law_one)))
    (l__law_one : K.lookup f__law_one = some ⟨oc__law_one, od__law_one, .func (PySem.W.fnOf "_law_one" "_law_one" (defArgs s__law_one) (defBody s__law_one) (defScope s__law_one) .none kV__law_one dc__law_one pm__law_one an__law_one cd__law_one ct__law_one), sl__law_one⟩)
    (c__law_one : PySem.W.codeIn K cd__law_one "_law_one" = true)
    (k__law_one : PySem.W.keepIn K (.ref f__law_one) = true)
    (h__law_fits : PySem.W.nsIn K mainGlobals "_law_fits" = some (some (.ref f__law_fits)))
    (l__law_fits : K.lookup f__law_fits = some ⟨oc__law_fits, od__law_fits, .func (PySem.W.fnOf "_law_fits" "_law_fits" (defArgs s__law_fits) (defBody s__law_fits) (defScope s__law_fits) .none kV__law_fits dc__law_fits pm__law_fits an__law_fits cd__law_fits ct__law_fits), sl__law_fits⟩)
    (c__law_fits : PySem.W.codeIn K cd__law_fits "_law_fits" = true)
    (k__law_fits : PySem.W.keepIn K (.ref f__law_fits) = true)
    (h__law_said : PySem.W.nsIn K mainGlobals "_law_said" = some (some (.ref f__law_said)))
    (l__law_said : K.lookup f__law_said = some ⟨oc__law_said, od__law_said, .func (PySem.W.fnOf "_law_said" "_law_said" (defArgs s__law_said) (defBody s__law_said) (defScope s__law_said) .none kV__law_said dc__law_said pm__law_said an__law_said cd__law_said ct__law_said), sl__law_said⟩)
    (c__law_said : PySem.W.codeIn K cd__law_said "_law_said" = true)
    (k__law_said : PySem.W.keepIn K (.ref f__law_said) = true)
    (h__law_widest : PySem.W.nsIn K mainGlobals "_law_widest" = some (some (.ref f__law_widest)))
    (l__law_widest : K.lookup f__law_widest = some ⟨oc__law_widest, od__law_widest, .func (PySem.W.fnOf "_law_widest" "_law_widest" (defArgs s__law_widest) (defBody s__law_widest) (defScope s__law_widest) .none kV__law_widest dc__law_widest pm__law_widest an__law_widest cd__law_widest ct__law_widest), sl__law_widest⟩)
    (c__law_widest : PySem.W.codeIn K cd__law_widest "_law_widest" = true)
    (k__law_widest : PySem.W.keepIn K (.ref f__law_widest) = true)
    (h__law_refused : PySem.W.nsIn K mainGlobals "_law_refused" = some (some (.ref f__law_refused)))
    (l__law_refused : K.lookup f__law_refused = some ⟨oc__law_refused, od__law_refused, .func (PySem.W.fnOf "_law_refused" "_law_refused" (defArgs s__law_refused) (defBody s__law_refused) (defScope s__law_refused) .none kV__law_refused dc__law_refused pm__law_refused an__law_refused (.ref co__law_refused) ct__law_refused), sl__law_refused⟩)
    (c__law_refused : PySem.W.codeIn K (.ref co__law_refused) "_law_refused" = true)
    (k__law_refused : PySem.W.keepIn K (.ref f__law_refused) = true)
    (h_law : PySem.W.nsIn K mainGlobals "law" = some (some (.ref f_law)))
    (l_law : K.lookup f_law = some ⟨oc_law, od_law, .func (PySem.W.fnOf "law" "law" (defArgs s_law) (defBody s_law) (defScope s_law) .none kV_law dc_law pm_law an_law (.ref co_law) ct_law), sl_law⟩)
    (c_law : PySem.W.codeIn K (.ref co_law) "law" = true)
    (k_law : PySem.W.keepIn K (.ref f_law) = true)
    (h_NoProcess : PySem.W.nsIn K mainGlobals "NoProcess" = some (some (.ref C_NoProcess)))
    (h_NoPages : PySem.W.nsIn K mainGlobals "NoPages" = some (some (.ref C_NoPages)))
    (h_NoFile : PySem.W.nsIn K mainGlobals "NoFile" = some (some (.ref C_NoFile)))
    (h_PageError : PySem.W.nsIn K mainGlobals "PageError" = some (some (.ref C_PageError)))
    (h_System : PySem.W.nsIn K mainGlobals "System" = some (some (.ref C_System)))
    (h_Page : PySem.W.nsIn K mainGlobals "Page" = some (some (.ref C_Page)))
    (h_History : PySem.W.nsIn K mainGlobals "History" = some (some (.ref C_History)))
    (h_NoProcess_init : PySem.W.findIn K (.ref C_NoProcess) "__init__" = some (some (.ref f_NoProcess_init)))
    (l_NoProcess_init : K.lookup f_NoProcess_init = some ⟨oc_NoProcess_init, od_NoProcess_init, .func (PySem.W.fnOf "__init__" "NoProcess.__init__" (defArgs s_NoProcess_init) (defBody s_NoProcess_init) (defScope s_NoProcess_init) .none kV_NoProcess_init dc_NoProcess_init pm_NoProcess_init an_NoProcess_init cd_NoProcess_init ct_NoProcess_init), sl_NoProcess_init⟩)
    (c_NoProcess_init : PySem.W.codeIn K cd_NoProcess_init "NoProcess.__init__" = true)
    (k_NoProcess_init : PySem.W.keepIn K (.ref f_NoProcess_init) = true)
    (h_NoPages_init : PySem.W.findIn K (.ref C_NoPages) "__init__" = some (some (.ref f_NoPages_init)))
    (l_NoPages_init : K.lookup f_NoPages_init = some ⟨oc_NoPages_init, od_NoPages_init, .func (PySem.W.fnOf "__init__" "NoPages.__init__" (defArgs s_NoPages_init) (defBody s_NoPages_init) (defScope s_NoPages_init) .none kV_NoPages_init dc_NoPages_init pm_NoPages_init an_NoPages_init cd_NoPages_init ct_NoPages_init), sl_NoPages_init⟩)
    (c_NoPages_init : PySem.W.codeIn K cd_NoPages_init "NoPages.__init__" = true)
    (k_NoPages_init : PySem.W.keepIn K (.ref f_NoPages_init) = true)
    (h_NoFile_init : PySem.W.findIn K (.ref C_NoFile) "__init__" = some (some (.ref f_NoFile_init)))
    (l_NoFile_init : K.lookup f_NoFile_init = some ⟨oc_NoFile_init, od_NoFile_init, .func (PySem.W.fnOf "__init__" "NoFile.__init__" (defArgs s_NoFile_init) (defBody s_NoFile_init) (defScope s_NoFile_init) .none kV_NoFile_init dc_NoFile_init pm_NoFile_init an_NoFile_init cd_NoFile_init ct_NoFile_init), sl_NoFile_init⟩)
    (c_NoFile_init : PySem.W.codeIn K cd_NoFile_init "NoFile.__init__" = true)
    (k_NoFile_init : PySem.W.keepIn K (.ref f_NoFile_init) = true)
    (h_Page_init : PySem.W.findIn K (.ref C_Page) "__init__" = some (some (.ref f_Page_init)))
    (l_Page_init : K.lookup f_Page_init = some ⟨oc_Page_init, od_Page_init, .func (PySem.W.fnOf "__init__" "Page.__init__" (defArgs s_Page_init) (defBody s_Page_init) (defScope s_Page_init) .none kV_Page_init dc_Page_init pm_Page_init an_Page_init cd_Page_init ct_Page_init), sl_Page_init⟩)
    (c_Page_init : PySem.W.codeIn K cd_Page_init "Page.__init__" = true)
    (k_Page_init : PySem.W.keepIn K (.ref f_Page_init) = true)
    (h_History_init : PySem.W.findIn K (.ref C_History) "__init__" = some (some (.ref f_History_init)))
    (l_History_init : K.lookup f_History_init = some ⟨oc_History_init, od_History_init, .func (PySem.W.fnOf "__init__" "History.__init__" (defArgs s_History_init) (defBody s_History_init) (defScope s_History_init) .none kV_History_init dc_History_init pm_History_init an_History_init cd_History_init ct_History_init), sl_History_init⟩)
    (c_History_init : PySem.W.codeIn K cd_History_init "History.__init__" = true)
    (k_History_init : PySem.W.keepIn K (.ref f_History_init) = true)
    (h_System_init : PySem.W.findIn K (.ref C_System) "__init__" = some (some (.ref f_System_init)))
    (l_System_init : K.lookup f_System_init = some ⟨oc_System_init, od_System_init, .func (PySem.W.fnOf "__init__" "System.__init__" (defArgs s_System_init) (defBody s_System_init) (defScope s_System_init) .none (.ref kD_System_init) dc_System_init pm_System_init an_System_init cd_System_init ct_System_init), sl_System_init⟩)
    (c_System_init : PySem.W.codeIn K cd_System_init "System.__init__" = true)
    (k_System_init : PySem.W.keepIn K (.ref f_System_init) = true)
    (kd_System_init_frames : PySem.W.nsIn K kD_System_init "frames" = some (some .none))
    (kd_System_init_slots : PySem.W.nsIn K kD_System_init "slots" = some (some .none))
    (kd_System_init_strict : PySem.W.nsIn K kD_System_init "strict" = some (some (.bool false)))
    (xL_NoProcess : K.lookup C_NoProcess = some (excClassObj nm_NoProcess q_NoProcess C_NoProcess N_NoProcess bs_NoProcess bm_NoProcess true sn_NoProcess sub_NoProcess ab_NoProcess col_NoProcess dd_NoProcess m0_NoProcess m1_NoProcess m2_NoProcess m3_NoProcess m5_NoProcess "ValueError.__new__"))
    (xR_NoProcess : PySem.HandSPX.refsVE bm_NoProcess = true)
    (xS_NoProcess : PySem.W.findIn K (.ref C_NoProcess) "__setattr__" = some (some (.builtin "object.__setattr__")))
    (xE_NoProcess : PySem.W.subIn K (.ref C_NoProcess) (.type "BaseException") = some true)
    (xT_NoProcess : PySem.W.typeIn K (.ref C_NoProcess) = some (.type "type"))
    (xK_NoProcess : PySem.W.keepIn K (.ref C_NoProcess) = true)
    (xG_NoProcess : PySem.W.findIn K (.ref C_NoProcess) "__getattribute__" = some (some (.builtin "BaseException.__getattribute__")))
    (xH_NoProcess : PySem.W.findIn K (.ref C_NoProcess) "__getattr__" = some none)
    (xD_NoProcess : PySem.W.hasDictIn K C_NoProcess = true)
    (xC_NoProcess : PySem.W.isClsIn K C_NoProcess = true)
    (xN_NoProcess : PySem.W.findIn K (.ref C_NoProcess) "process" = some none)
    (xi_NoProcess : PySem.W.typeIn K (.ref f_NoProcess_init) = some (.type "function"))
    (xL_NoPages : K.lookup C_NoPages = some (excClassObj nm_NoPages q_NoPages C_NoPages N_NoPages bs_NoPages bm_NoPages true sn_NoPages sub_NoPages ab_NoPages col_NoPages dd_NoPages m0_NoPages m1_NoPages m2_NoPages m3_NoPages m5_NoPages "ValueError.__new__"))
    (xR_NoPages : PySem.HandSPX.refsVE bm_NoPages = true)
    (xS_NoPages : PySem.W.findIn K (.ref C_NoPages) "__setattr__" = some (some (.builtin "object.__setattr__")))
    (xE_NoPages : PySem.W.subIn K (.ref C_NoPages) (.type "BaseException") = some true)
    (xT_NoPages : PySem.W.typeIn K (.ref C_NoPages) = some (.type "type"))
    (xK_NoPages : PySem.W.keepIn K (.ref C_NoPages) = true)
    (xG_NoPages : PySem.W.findIn K (.ref C_NoPages) "__getattribute__" = some (some (.builtin "BaseException.__getattribute__")))
    (xH_NoPages : PySem.W.findIn K (.ref C_NoPages) "__getattr__" = some none)
    (xD_NoPages : PySem.W.hasDictIn K C_NoPages = true)
    (xC_NoPages : PySem.W.isClsIn K C_NoPages = true)
    (xN_NoPages : PySem.W.findIn K (.ref C_NoPages) "part" = some none)
    (xi_NoPages : PySem.W.typeIn K (.ref f_NoPages_init) = some (.type "function"))
    (xL_NoFile : K.lookup C_NoFile = some (excClassObj nm_NoFile q_NoFile C_NoFile N_NoFile bs_NoFile bm_NoFile true sn_NoFile sub_NoFile ab_NoFile col_NoFile dd_NoFile m0_NoFile m1_NoFile m2_NoFile m3_NoFile m5_NoFile "ValueError.__new__"))
    (xR_NoFile : PySem.HandSPX.refsVE bm_NoFile = true)
    (xS_NoFile : PySem.W.findIn K (.ref C_NoFile) "__setattr__" = some (some (.builtin "object.__setattr__")))
    (xE_NoFile : PySem.W.subIn K (.ref C_NoFile) (.type "BaseException") = some true)
    (xT_NoFile : PySem.W.typeIn K (.ref C_NoFile) = some (.type "type"))
    (xK_NoFile : PySem.W.keepIn K (.ref C_NoFile) = true)
    (xG_NoFile : PySem.W.findIn K (.ref C_NoFile) "__getattribute__" = some (some (.builtin "BaseException.__getattribute__")))
    (xH_NoFile : PySem.W.findIn K (.ref C_NoFile) "__getattr__" = some none)
    (xD_NoFile : PySem.W.hasDictIn K C_NoFile = true)
    (xC_NoFile : PySem.W.isClsIn K C_NoFile = true)
    (xN_NoFile : PySem.W.findIn K (.ref C_NoFile) "name" = some none)
    (xi_NoFile : PySem.W.typeIn K (.ref f_NoFile_init) = some (.type "function"))
    (xL_PageError : K.lookup C_PageError = some (excClassObj nm_PageError q_PageError C_PageError N_PageError bs_PageError bm_PageError true sn_PageError sub_PageError ab_PageError col_PageError dd_PageError m0_PageError m1_PageError m2_PageError m3_PageError m5_PageError "ValueError.__new__"))
    (xR_PageError : PySem.HandSPX.refsVE bm_PageError = true)
    (xS_PageError : PySem.W.findIn K (.ref C_PageError) "__setattr__" = some (some (.builtin "object.__setattr__")))
    (xE_PageError : PySem.W.subIn K (.ref C_PageError) (.type "BaseException") = some true)
    (xT_PageError : PySem.W.typeIn K (.ref C_PageError) = some (.type "type"))
    (xK_PageError : PySem.W.keepIn K (.ref C_PageError) = true)
    (xG_PageError : PySem.W.findIn K (.ref C_PageError) "__getattribute__" = some (some (.builtin "BaseException.__getattribute__")))
    (xH_PageError : PySem.W.findIn K (.ref C_PageError) "__getattr__" = some none)
    (xD_PageError : PySem.W.hasDictIn K C_PageError = true)
    (xC_PageError : PySem.W.isClsIn K C_PageError = true)
    (xx_NoPages_NoPages : PySem.W.subIn K (.ref C_NoPages) (.ref C_NoPages) = some true)
    (xx_NoProcess_NoPages : PySem.W.subIn K (.ref C_NoProcess) (.ref C_NoPages) = some false)
    (xx_NoProcess_NoProcess : PySem.W.subIn K (.ref C_NoProcess) (.ref C_NoProcess) = some true)
    (pg_System : PySem.W.plainGet K C_System Str.empty = true)
    (hd_System : PySem.W.hasDictIn K C_System = true)
    (po_System : PySem.W.plainOver K C_System = true)
    (sa_System : PySem.W.findIn K (.ref C_System) "__setattr__" = some (some (.builtin "object.__setattr__")))
    (mk_System : PySem.W.makesIn K C_System = true)
    (kc_System : PySem.W.keepIn K (.ref C_System) = true)
    (ii_System : PySem.W.isFn K (.ref f_System_init) = true)
    (na_System_frames : PySem.W.findIn K (.ref C_System) "frames" = some none)
    (na_System_slots : PySem.W.findIn K (.ref C_System) "slots" = some none)
    (na_System_strict : PySem.W.findIn K (.ref C_System) "strict" = some none)
    (na_System_steps_made : PySem.W.findIn K (.ref C_System) "steps_made" = some none)
    (na_System_processes_made : PySem.W.findIn K (.ref C_System) "processes_made" = some none)
    (na_System_objects_made : PySem.W.findIn K (.ref C_System) "objects_made" = some none)
    (na_System_tables : PySem.W.findIn K (.ref C_System) "tables" = some none)
    (na_System_objects : PySem.W.findIn K (.ref C_System) "objects" = some none)
    (na_System_object_pages : PySem.W.findIn K (.ref C_System) "object_pages" = some none)
    (na_System_files : PySem.W.findIn K (.ref C_System) "files" = some none)
    (na_System_classes : PySem.W.findIn K (.ref C_System) "classes" = some none)
    (na_System_locked_pages : PySem.W.findIn K (.ref C_System) "locked_pages" = some none)
    (na_System_memory : PySem.W.findIn K (.ref C_System) "memory" = some none)
    (na_System_swapped : PySem.W.findIn K (.ref C_System) "swapped" = some none)
    (na_System_faults : PySem.W.findIn K (.ref C_System) "faults" = some none)
    (na_System_swap_outs : PySem.W.findIn K (.ref C_System) "swap_outs" = some none)
    (na_System_write_backs : PySem.W.findIn K (.ref C_System) "write_backs" = some none)
    (na_System_history : PySem.W.findIn K (.ref C_System) "history" = some none)
    (pg_Page : PySem.W.plainGet K C_Page Str.empty = true)
    (hd_Page : PySem.W.hasDictIn K C_Page = true)
    (po_Page : PySem.W.plainOver K C_Page = true)
    (sa_Page : PySem.W.findIn K (.ref C_Page) "__setattr__" = some (some (.builtin "object.__setattr__")))
    (mk_Page : PySem.W.makesIn K C_Page = true)
    (kc_Page : PySem.W.keepIn K (.ref C_Page) = true)
    (ii_Page : PySem.W.isFn K (.ref f_Page_init) = true)
    (na_Page_rights : PySem.W.findIn K (.ref C_Page) "rights" = some none)
    (na_Page_shared : PySem.W.findIn K (.ref C_Page) "shared" = some none)
    (na_Page_source : PySem.W.findIn K (.ref C_Page) "source" = some none)
    (na_Page_index : PySem.W.findIn K (.ref C_Page) "index" = some none)
    (na_Page_flags : PySem.W.findIn K (.ref C_Page) "flags" = some none)
    (na_Page_held : PySem.W.findIn K (.ref C_Page) "held" = some none)
    (na_Page_stamp : PySem.W.findIn K (.ref C_Page) "stamp" = some none)
    (pg_History : PySem.W.plainGet K C_History Str.empty = true)
    (hd_History : PySem.W.hasDictIn K C_History = true)
    (po_History : PySem.W.plainOver K C_History = true)
    (sa_History : PySem.W.findIn K (.ref C_History) "__setattr__" = some (some (.builtin "object.__setattr__")))
    (mk_History : PySem.W.makesIn K C_History = true)
    (kc_History : PySem.W.keepIn K (.ref C_History) = true)
    (ii_History : PySem.W.isFn K (.ref f_History_init) = true)
    (na_History_row : PySem.W.findIn K (.ref C_History) "row" = some none)
    (na_History_holes : PySem.W.findIn K (.ref C_History) "holes" = some none)
    (na_History_locked : PySem.W.findIn K (.ref C_History) "locked" = some none)
    (na_History_classes : PySem.W.findIn K (.ref C_History) "classes" = some none)
    (na_History_touches : PySem.W.findIn K (.ref C_History) "touches" = some none)
    (na_History_distances : PySem.W.findIn K (.ref C_History) "distances" = some none)
    (na_History_swap_outs : PySem.W.findIn K (.ref C_History) "swap_outs" = some none)
    (na_History_write_backs : PySem.W.findIn K (.ref C_History) "write_backs" = some none)
    (na_History_most_slots : PySem.W.findIn K (.ref C_History) "most_slots" = some none)
    (na_History_saves : PySem.W.findIn K (.ref C_History) "saves" = some none)
    (na_History_lock_changes : PySem.W.findIn K (.ref C_History) "lock_changes" = some none)
    (na_History_most_locked : PySem.W.findIn K (.ref C_History) "most_locked" = some none)
    (na_History_crashed : PySem.W.findIn K (.ref C_History) "crashed" = some none)
    (na_History_merged : PySem.W.findIn K (.ref C_History) "merged" = some none)
    (gc_PAGES : PySem.W.nsIn K mainGlobals "PAGES" = some (some (.int 512 t_PAGES)))
    (b_int : PySem.W.nsIn K mainGlobals "int" = some none)
    (b_len : PySem.W.nsIn K mainGlobals "len" = some none)
    (b_isinstance : PySem.W.nsIn K mainGlobals "isinstance" = some none)
    (b_bool : PySem.W.nsIn K mainGlobals "bool" = some none)
    (b_str : PySem.W.nsIn K mainGlobals "str" = some none)
    (b_list : PySem.W.nsIn K mainGlobals "list" = some none)
    (b_range : PySem.W.nsIn K mainGlobals "range" = some none)
    (b_enumerate : PySem.W.nsIn K mainGlobals "enumerate" = some none)
    (b_min : PySem.W.nsIn K mainGlobals "min" = some none)
    (b_max : PySem.W.nsIn K mainGlobals "max" = some none)
    (b_sorted : PySem.W.nsIn K mainGlobals "sorted" = some none)
    (b_dict : PySem.W.nsIn K mainGlobals "dict" = some none)
    (b_tuple : PySem.W.nsIn K mainGlobals "tuple" = some none)
    (gR : PySem.W.nsIn K mainGlobals "RIGHTS" = some (some (.ref o_RIGHTS)))
    (rR : rightsIn K o_RIGHTS = true) :
    Txt K mg { a_attributes := f_attributes, fd_attributes := PySem.W.fnOf "attributes" "attributes" (defArgs s_attributes) (defBody s_attributes) (defScope s_attributes) .none kV_attributes dc_attributes pm_attributes an_attributes cd_attributes ct_attributes, a_has_object := f_has_object, fd_has_object := PySem.W.fnOf "has_object" "has_object" (defArgs s_has_object) (defBody s_has_object) (defScope s_has_object) .none kV_has_object dc_has_object pm_has_object an_has_object cd_has_object ct_has_object, a_arrange_locked := f_arrange_locked, fd_arrange_locked := PySem.W.fnOf "arrange_locked" "arrange_locked" (defArgs s_arrange_locked) (defBody s_arrange_locked) (defScope s_arrange_locked) .none kV_arrange_locked dc_arrange_locked pm_arrange_locked an_arrange_locked cd_arrange_locked ct_arrange_locked, a_add_locked := f_add_locked, fd_add_locked := PySem.W.fnOf "add_locked" "add_locked" (defArgs s_add_locked) (defBody s_add_locked) (defScope s_add_locked) .none kV_add_locked dc_add_locked pm_add_locked an_add_locked cd_add_locked ct_add_locked, a_this_step := f_this_step, fd_this_step := PySem.W.fnOf "this_step" "this_step" (defArgs s_this_step) (defBody s_this_step) (defScope s_this_step) .none kV_this_step dc_this_step pm_this_step an_this_step cd_this_step ct_this_step, a_count_page := f_count_page, fd_count_page := PySem.W.fnOf "count_page" "count_page" (defArgs s_count_page) (defBody s_count_page) (defScope s_count_page) .none kV_count_page dc_count_page pm_count_page an_count_page cd_count_page ct_count_page, a_discount_page := f_discount_page, fd_discount_page := PySem.W.fnOf "discount_page" "discount_page" (defArgs s_discount_page) (defBody s_discount_page) (defScope s_discount_page) .none kV_discount_page dc_discount_page pm_discount_page an_discount_page cd_discount_page ct_discount_page, a_discount_user := f_discount_user, fd_discount_user := PySem.W.fnOf "discount_user" "discount_user" (defArgs s_discount_user) (defBody s_discount_user) (defScope s_discount_user) .none kV_discount_user dc_discount_user pm_discount_user an_discount_user cd_discount_user ct_discount_user, a_replace_pages := f_replace_pages, fd_replace_pages := PySem.W.fnOf "replace_pages" "replace_pages" (defArgs s_replace_pages) (defBody s_replace_pages) (defScope s_replace_pages) .none kV_replace_pages dc_replace_pages pm_replace_pages an_replace_pages cd_replace_pages ct_replace_pages, a_end_step := f_end_step, fd_end_step := PySem.W.fnOf "end_step" "end_step" (defArgs s_end_step) (defBody s_end_step) (defScope s_end_step) .none kV_end_step dc_end_step pm_end_step an_end_step cd_end_step ct_end_step, a_is_integer := f_is_integer, fd_is_integer := PySem.W.fnOf "is_integer" "is_integer" (defArgs s_is_integer) (defBody s_is_integer) (defScope s_is_integer) .none kV_is_integer dc_is_integer pm_is_integer an_is_integer cd_is_integer ct_is_integer, a_is_word := f_is_word, fd_is_word := PySem.W.fnOf "is_word" "is_word" (defArgs s_is_word) (defBody s_is_word) (defScope s_is_word) .none kV_is_word dc_is_word pm_is_word an_is_word cd_is_word ct_is_word, a_require := f_require, fd_require := PySem.W.fnOf "require" "require" (defArgs s_require) (defBody s_require) (defScope s_require) .none kV_require dc_require pm_require an_require cd_require ct_require, a_table_of := f_table_of, fd_table_of := PySem.W.fnOf "table_of" "table_of" (defArgs s_table_of) (defBody s_table_of) (defScope s_table_of) .none kV_table_of dc_table_of pm_table_of an_table_of cd_table_of ct_table_of, a_numbers_of := f_numbers_of, fd_numbers_of := PySem.W.fnOf "numbers_of" "numbers_of" (defArgs s_numbers_of) (defBody s_numbers_of) (defScope s_numbers_of) .none kV_numbers_of dc_numbers_of pm_numbers_of an_numbers_of cd_numbers_of ct_numbers_of, a_file_of := f_file_of, fd_file_of := PySem.W.fnOf "file_of" "file_of" (defArgs s_file_of) (defBody s_file_of) (defScope s_file_of) .none kV_file_of dc_file_of pm_file_of an_file_of cd_file_of ct_file_of, a_require_charge := f_require_charge, fd_require_charge := PySem.W.fnOf "require_charge" "require_charge" (defArgs s_require_charge) (defBody s_require_charge) (defScope s_require_charge) .none kV_require_charge dc_require_charge pm_require_charge an_require_charge cd_require_charge ct_require_charge, a_require_source := f_require_source, fd_require_source := PySem.W.fnOf "require_source" "require_source" (defArgs s_require_source) (defBody s_require_source) (defScope s_require_source) .none kV_require_source dc_require_source pm_require_source an_require_source cd_require_source ct_require_source, a_place_for := f_place_for, fd_place_for := PySem.W.fnOf "place_for" "place_for" (defArgs s_place_for) (defBody s_place_for) (defScope s_place_for) .none kV_place_for dc_place_for pm_place_for an_place_for cd_place_for ct_place_for, a_map_pages := f_map_pages, fd_map_pages := PySem.W.fnOf "map_pages" "map_pages" (defArgs s_map_pages) (defBody s_map_pages) (defScope s_map_pages) .none (.ref kD_map_pages) dc_map_pages pm_map_pages an_map_pages cd_map_pages ct_map_pages, a_new_pages := f_new_pages, fd_new_pages := PySem.W.fnOf "new_pages" "new_pages" (defArgs s_new_pages) (defBody s_new_pages) (defScope s_new_pages) .none kV_new_pages dc_new_pages pm_new_pages an_new_pages cd_new_pages ct_new_pages, a_unmap := f_unmap, fd_unmap := PySem.W.fnOf "unmap" "unmap" (defArgs s_unmap) (defBody s_unmap) (defScope s_unmap) .none kV_unmap dc_unmap pm_unmap an_unmap cd_unmap ct_unmap, a_continues := f_continues, fd_continues := PySem.W.fnOf "continues" "continues" (defArgs s_continues) (defBody s_continues) (defScope s_continues) .none kV_continues dc_continues pm_continues an_continues cd_continues ct_continues, a_regions := f_regions, fd_regions := PySem.W.fnOf "regions" "regions" (defArgs s_regions) (defBody s_regions) (defScope s_regions) .none kV_regions dc_regions pm_regions an_regions cd_regions ct_regions, a_free_runs := f_free_runs, fd_free_runs := PySem.W.fnOf "free_runs" "free_runs" (defArgs s_free_runs) (defBody s_free_runs) (defScope s_free_runs) .none kV_free_runs dc_free_runs pm_free_runs an_free_runs cd_free_runs ct_free_runs, a_lowest_gap := f_lowest_gap, fd_lowest_gap := PySem.W.fnOf "lowest_gap" "lowest_gap" (defArgs s_lowest_gap) (defBody s_lowest_gap) (defScope s_lowest_gap) .none kV_lowest_gap dc_lowest_gap pm_lowest_gap an_lowest_gap cd_lowest_gap ct_lowest_gap, a_gap := f_gap, fd_gap := PySem.W.fnOf "gap" "gap" (defArgs s_gap) (defBody s_gap) (defScope s_gap) .none kV_gap dc_gap pm_gap an_gap cd_gap ct_gap, a_widest := f_widest, fd_widest := PySem.W.fnOf "widest" "widest" (defArgs s_widest) (defBody s_widest) (defScope s_widest) .none kV_widest dc_widest pm_widest an_widest cd_widest ct_widest, a_new_process := f_new_process, fd_new_process := PySem.W.fnOf "new_process" "new_process" (defArgs s_new_process) (defBody s_new_process) (defScope s_new_process) .none kV_new_process dc_new_process pm_new_process an_new_process cd_new_process ct_new_process, a_spawn := f_spawn, fd_spawn := PySem.W.fnOf "spawn" "spawn" (defArgs s_spawn) (defBody s_spawn) (defScope s_spawn) .none kV_spawn dc_spawn pm_spawn an_spawn cd_spawn ct_spawn, a__law_well := f__law_well, fd__law_well := PySem.W.fnOf "_law_well" "_law_well" (defArgs s__law_well) (defBody s__law_well) (defScope s__law_well) .none kV__law_well dc__law_well pm__law_well an__law_well cd__law_well ct__law_well, a__law_draw := f__law_draw, fd__law_draw := PySem.W.fnOf "_law_draw" "_law_draw" (defArgs s__law_draw) (defBody s__law_draw) (defScope s__law_draw) .none kV__law_draw dc__law_draw pm__law_draw an__law_draw cd__law_draw ct__law_draw, a__law_one := f__law_one, fd__law_one := PySem.W.fnOf "_law_one" "_law_one" (defArgs s__law_one) (defBody s__law_one) (defScope s__law_one) .none kV__law_one dc__law_one pm__law_one an__law_one cd__law_one ct__law_one, a__law_fits := f__law_fits, fd__law_fits := PySem.W.fnOf "_law_fits" "_law_fits" (defArgs s__law_fits) (defBody s__law_fits) (defScope s__law_fits) .none kV__law_fits dc__law_fits pm__law_fits an__law_fits cd__law_fits ct__law_fits, a__law_said := f__law_said, fd__law_said := PySem.W.fnOf "_law_said" "_law_said" (defArgs s__law_said) (defBody s__law_said) (defScope s__law_said) .none kV__law_said dc__law_said pm__law_said an__law_said cd__law_said ct__law_said, a__law_widest := f__law_widest, fd__law_widest := PySem.W.fnOf "_law_widest" "_law_widest" (defArgs s__law_widest) (defBody s__law_widest) (defScope s__law_widest) .none kV__law_widest dc__law_widest pm__law_widest an__law_widest cd__law_widest ct__law_widest, a__law_refused := f__law_refused, fd__law_refused := PySem.W.fnOf "_law_refused" "_law_refused" (defArgs s__law_refused) (defBody s__law_refused) (defScope s__law_refused) .none kV__law_refused dc__law_refused pm__law_refused an__law_refused (.ref co__law_refused) ct__law_refused, co__law_refused := co__law_refused, ta__law_refused := ta__law_refused, a_law := f_law, fd_law := PySem.W.fnOf "law" "law" (defArgs s_law) (defBody s_law) (defScope s_law) .none kV_law dc_law pm_law an_law (.ref co_law) ct_law, co_law := co_law, ta_law := ta_law, c_NoProcess := C_NoProcess, c_NoPages := C_NoPages, c_NoFile := C_NoFile, c_PageError := C_PageError, c_System := C_System, c_Page := C_Page, c_History := C_History, a_NoProcess_init := f_NoProcess_init, fd_NoProcess_init := PySem.W.fnOf "__init__" "NoProcess.__init__" (defArgs s_NoProcess_init) (defBody s_NoProcess_init) (defScope s_NoProcess_init) .none kV_NoProcess_init dc_NoProcess_init pm_NoProcess_init an_NoProcess_init cd_NoProcess_init ct_NoProcess_init, a_NoPages_init := f_NoPages_init, fd_NoPages_init := PySem.W.fnOf "__init__" "NoPages.__init__" (defArgs s_NoPages_init) (defBody s_NoPages_init) (defScope s_NoPages_init) .none kV_NoPages_init dc_NoPages_init pm_NoPages_init an_NoPages_init cd_NoPages_init ct_NoPages_init, a_NoFile_init := f_NoFile_init, fd_NoFile_init := PySem.W.fnOf "__init__" "NoFile.__init__" (defArgs s_NoFile_init) (defBody s_NoFile_init) (defScope s_NoFile_init) .none kV_NoFile_init dc_NoFile_init pm_NoFile_init an_NoFile_init cd_NoFile_init ct_NoFile_init, a_Page_init := f_Page_init, fd_Page_init := PySem.W.fnOf "__init__" "Page.__init__" (defArgs s_Page_init) (defBody s_Page_init) (defScope s_Page_init) .none kV_Page_init dc_Page_init pm_Page_init an_Page_init cd_Page_init ct_Page_init, a_History_init := f_History_init, fd_History_init := PySem.W.fnOf "__init__" "History.__init__" (defArgs s_History_init) (defBody s_History_init) (defScope s_History_init) .none kV_History_init dc_History_init pm_History_init an_History_init cd_History_init ct_History_init, a_System_init := f_System_init, fd_System_init := PySem.W.fnOf "__init__" "System.__init__" (defArgs s_System_init) (defBody s_System_init) (defScope s_System_init) .none (.ref kD_System_init) dc_System_init pm_System_init an_System_init cd_System_init ct_System_init, t_PAGES := t_PAGES, o_RIGHTS := o_RIGHTS } := {
    f_attributes := fun_mk (st := s_attributes) l_attributes c_attributes k_attributes
    bi_attributes := (fun_mk (st := s_attributes) l_attributes c_attributes k_attributes).binds (ps := p_attributes) fun _ _ _ _ _ _ us hl => match us, hl with | [_], _ => rfl
    g_attributes := PySem.W.mg_of X G h_attributes
    k_attributes := k_attributes
    f_has_object := fun_mk (st := s_has_object) l_has_object c_has_object k_has_object
    bi_has_object := (fun_mk (st := s_has_object) l_has_object c_has_object k_has_object).binds (ps := p_has_object) fun _ _ _ _ _ _ us hl => match us, hl with | [_], _ => rfl
    g_has_object := PySem.W.mg_of X G h_has_object
    k_has_object := k_has_object
    f_arrange_locked := fun_mk (st := s_arrange_locked) l_arrange_locked c_arrange_locked k_arrange_locked
    bi_arrange_locked := (fun_mk (st := s_arrange_locked) l_arrange_locked c_arrange_locked k_arrange_locked).binds (ps := p_arrange_locked) fun _ _ _ _ _ _ us hl => match us, hl with | [_], _ => rfl
    g_arrange_locked := PySem.W.mg_of X G h_arrange_locked
    k_arrange_locked := k_arrange_locked
    f_add_locked := fun_mk (st := s_add_locked) l_add_locked c_add_locked k_add_locked
    bi_add_locked := (fun_mk (st := s_add_locked) l_add_locked c_add_locked k_add_locked).binds (ps := p_add_locked) fun _ _ _ _ _ _ us hl => match us, hl with | [_, _], _ => rfl
    g_add_locked := PySem.W.mg_of X G h_add_locked
    k_add_locked := k_add_locked
    f_this_step := fun_mk (st := s_this_step) l_this_step c_this_step k_this_step
    bi_this_step := (fun_mk (st := s_this_step) l_this_step c_this_step k_this_step).binds (ps := p_this_step) fun _ _ _ _ _ _ us hl => match us, hl with | [_], _ => rfl
    g_this_step := PySem.W.mg_of X G h_this_step
    k_this_step := k_this_step
    f_count_page := fun_mk (st := s_count_page) l_count_page c_count_page k_count_page
    bi_count_page := (fun_mk (st := s_count_page) l_count_page c_count_page k_count_page).binds (ps := p_count_page) fun _ _ _ _ _ _ us hl => match us, hl with | [_, _], _ => rfl
    g_count_page := PySem.W.mg_of X G h_count_page
    k_count_page := k_count_page
    f_discount_page := fun_mk (st := s_discount_page) l_discount_page c_discount_page k_discount_page
    bi_discount_page := (fun_mk (st := s_discount_page) l_discount_page c_discount_page k_discount_page).binds (ps := p_discount_page) fun _ _ _ _ _ _ us hl => match us, hl with | [_, _], _ => rfl
    g_discount_page := PySem.W.mg_of X G h_discount_page
    k_discount_page := k_discount_page
    f_discount_user := fun_mk (st := s_discount_user) l_discount_user c_discount_user k_discount_user
    bi_discount_user := (fun_mk (st := s_discount_user) l_discount_user c_discount_user k_discount_user).binds (ps := p_discount_user) fun _ _ _ _ _ _ us hl => match us, hl with | [_, _, _], _ => rfl
    g_discount_user := PySem.W.mg_of X G h_discount_user
    k_discount_user := k_discount_user
    f_replace_pages := fun_mk (st := s_replace_pages) l_replace_pages c_replace_pages k_replace_pages
    bi_replace_pages := (fun_mk (st := s_replace_pages) l_replace_pages c_replace_pages k_replace_pages).binds (ps := p_replace_pages) fun _ _ _ _ _ _ us hl => match us, hl with | [_, _, _], _ => rfl
    g_replace_pages := PySem.W.mg_of X G h_replace_pages
    k_replace_pages := k_replace_pages
    f_end_step := fun_mk (st := s_end_step) l_end_step c_end_step k_end_step
    bi_end_step := (fun_mk (st := s_end_step) l_end_step c_end_step k_end_step).binds (ps := p_end_step) fun _ _ _ _ _ _ us hl => match us, hl with | [_], _ => rfl
    g_end_step := PySem.W.mg_of X G h_end_step
    k_end_step := k_end_step
    f_is_integer := fun_mk (st := s_is_integer) l_is_integer c_is_integer k_is_integer
    bi_is_integer := (fun_mk (st := s_is_integer) l_is_integer c_is_integer k_is_integer).binds (ps := p_is_integer) fun _ _ _ _ _ _ us hl => match us, hl with | [_, _, _], _ => rfl
    g_is_integer := PySem.W.mg_of X G h_is_integer
    k_is_integer := k_is_integer
    f_is_word := fun_mk (st := s_is_word) l_is_word c_is_word k_is_word
    bi_is_word := (fun_mk (st := s_is_word) l_is_word c_is_word k_is_word).binds (ps := p_is_word) fun _ _ _ _ _ _ us hl => match us, hl with | [_, _], _ => rfl
    g_is_word := PySem.W.mg_of X G h_is_word
    k_is_word := k_is_word
    f_require := fun_mk (st := s_require) l_require c_require k_require
    bi_require := (fun_mk (st := s_require) l_require c_require k_require).binds (ps := p_require) fun _ _ _ _ _ _ us hl => match us, hl with | [_, _], _ => rfl
    g_require := PySem.W.mg_of X G h_require
    k_require := k_require
    f_table_of := fun_mk (st := s_table_of) l_table_of c_table_of k_table_of
    bi_table_of := (fun_mk (st := s_table_of) l_table_of c_table_of k_table_of).binds (ps := p_table_of) fun _ _ _ _ _ _ us hl => match us, hl with | [_, _], _ => rfl
    g_table_of := PySem.W.mg_of X G h_table_of
    k_table_of := k_table_of
    f_numbers_of := fun_mk (st := s_numbers_of) l_numbers_of c_numbers_of k_numbers_of
    bi_numbers_of := (fun_mk (st := s_numbers_of) l_numbers_of c_numbers_of k_numbers_of).binds (ps := p_numbers_of) fun _ _ _ _ _ _ us hl => match us, hl with | [_, _], _ => rfl
    g_numbers_of := PySem.W.mg_of X G h_numbers_of
    k_numbers_of := k_numbers_of
    f_file_of := fun_mk (st := s_file_of) l_file_of c_file_of k_file_of
    bi_file_of := (fun_mk (st := s_file_of) l_file_of c_file_of k_file_of).binds (ps := p_file_of) fun _ _ _ _ _ _ us hl => match us, hl with | [_, _], _ => rfl
    g_file_of := PySem.W.mg_of X G h_file_of
    k_file_of := k_file_of
    f_require_charge := fun_mk (st := s_require_charge) l_require_charge c_require_charge k_require_charge
    bi_require_charge := (fun_mk (st := s_require_charge) l_require_charge c_require_charge k_require_charge).binds (ps := p_require_charge) fun _ _ _ _ _ _ us hl => match us, hl with | [_, _, _], _ => rfl
    g_require_charge := PySem.W.mg_of X G h_require_charge
    k_require_charge := k_require_charge
    f_require_source := fun_mk (st := s_require_source) l_require_source c_require_source k_require_source
    bi_require_source := (fun_mk (st := s_require_source) l_require_source c_require_source k_require_source).binds (ps := p_require_source) fun _ _ _ _ _ _ us hl => match us, hl with | [_, _, _], _ => rfl
    g_require_source := PySem.W.mg_of X G h_require_source
    k_require_source := k_require_source
    f_place_for := fun_mk (st := s_place_for) l_place_for c_place_for k_place_for
    bi_place_for := (fun_mk (st := s_place_for) l_place_for c_place_for k_place_for).binds (ps := p_place_for) fun _ _ _ _ _ _ us hl => match us, hl with | [_, _, _], _ => rfl
    g_place_for := PySem.W.mg_of X G h_place_for
    k_place_for := k_place_for
    f_map_pages := ⟨⟨_, _, _, _, _, _, _, _, _, _, rfl, l_map_pages, c_map_pages, .inl ⟨rfl, rfl⟩, .inr ⟨kD_map_pages, rfl, by
      intro q hq
      simp only [kw_map_pages, List.mem_cons, List.not_mem_nil, or_false] at hq
      rcases hq with h | h | h | h | h
      · subst h; exact ⟨_, kd_map_pages_rights, ⟨_, rfl⟩⟩
      · subst h; exact ⟨_, kd_map_pages_shared, rfl⟩
      · subst h; exact ⟨_, kd_map_pages_source, rfl⟩
      · subst h; exact ⟨_, kd_map_pages_index, ⟨_, rfl⟩⟩
      · subst h; exact ⟨_, kd_map_pages_at, rfl⟩⟩⟩, k_map_pages⟩
    g_map_pages := PySem.W.mg_of X G h_map_pages
    k_map_pages := k_map_pages
    f_new_pages := fun_mk (st := s_new_pages) l_new_pages c_new_pages k_new_pages
    bi_new_pages := (fun_mk (st := s_new_pages) l_new_pages c_new_pages k_new_pages).binds (ps := p_new_pages) fun _ _ _ _ _ _ us hl => match us, hl with | [_, _, _], _ => rfl
    g_new_pages := PySem.W.mg_of X G h_new_pages
    k_new_pages := k_new_pages
    f_unmap := fun_mk (st := s_unmap) l_unmap c_unmap k_unmap
    bi_unmap := (fun_mk (st := s_unmap) l_unmap c_unmap k_unmap).binds (ps := p_unmap) fun _ _ _ _ _ _ us hl => match us, hl with | [_, _, _, _], _ => rfl
    g_unmap := PySem.W.mg_of X G h_unmap
    k_unmap := k_unmap
    f_continues := fun_mk (st := s_continues) l_continues c_continues k_continues
    bi_continues := (fun_mk (st := s_continues) l_continues c_continues k_continues).binds (ps := p_continues) fun _ _ _ _ _ _ us hl => match us, hl with | [_, _], _ => rfl
    g_continues := PySem.W.mg_of X G h_continues
    k_continues := k_continues
    f_regions := fun_mk (st := s_regions) l_regions c_regions k_regions
    bi_regions := (fun_mk (st := s_regions) l_regions c_regions k_regions).binds (ps := p_regions) fun _ _ _ _ _ _ us hl => match us, hl with | [_, _], _ => rfl
    g_regions := PySem.W.mg_of X G h_regions
    k_regions := k_regions
    f_free_runs := fun_mk (st := s_free_runs) l_free_runs c_free_runs k_free_runs
    bi_free_runs := (fun_mk (st := s_free_runs) l_free_runs c_free_runs k_free_runs).binds (ps := p_free_runs) fun _ _ _ _ _ _ us hl => match us, hl with | [_], _ => rfl
    g_free_runs := PySem.W.mg_of X G h_free_runs
    k_free_runs := k_free_runs
    f_lowest_gap := fun_mk (st := s_lowest_gap) l_lowest_gap c_lowest_gap k_lowest_gap
    bi_lowest_gap := (fun_mk (st := s_lowest_gap) l_lowest_gap c_lowest_gap k_lowest_gap).binds (ps := p_lowest_gap) fun _ _ _ _ _ _ us hl => match us, hl with | [_, _], _ => rfl
    g_lowest_gap := PySem.W.mg_of X G h_lowest_gap
    k_lowest_gap := k_lowest_gap
    f_gap := fun_mk (st := s_gap) l_gap c_gap k_gap
    bi_gap := (fun_mk (st := s_gap) l_gap c_gap k_gap).binds (ps := p_gap) fun _ _ _ _ _ _ us hl => match us, hl with | [_, _, _], _ => rfl
    g_gap := PySem.W.mg_of X G h_gap
    k_gap := k_gap
    f_widest := fun_mk (st := s_widest) l_widest c_widest k_widest
    bi_widest := (fun_mk (st := s_widest) l_widest c_widest k_widest).binds (ps := p_widest) fun _ _ _ _ _ _ us hl => match us, hl with | [_, _], _ => rfl
    g_widest := PySem.W.mg_of X G h_widest
    k_widest := k_widest
    f_new_process := fun_mk (st := s_new_process) l_new_process c_new_process k_new_process
    bi_new_process := (fun_mk (st := s_new_process) l_new_process c_new_process k_new_process).binds (ps := p_new_process) fun _ _ _ _ _ _ us hl => match us, hl with | [_], _ => rfl
    g_new_process := PySem.W.mg_of X G h_new_process
    k_new_process := k_new_process
    f_spawn := fun_mk (st := s_spawn) l_spawn c_spawn k_spawn
    bi_spawn := (fun_mk (st := s_spawn) l_spawn c_spawn k_spawn).binds (ps := p_spawn) fun _ _ _ _ _ _ us hl => match us, hl with | [_], _ => rfl
    g_spawn := PySem.W.mg_of X G h_spawn
    k_spawn := k_spawn
    f__law_well := fun_mk (st := s__law_well) l__law_well c__law_well k__law_well
    bi__law_well := (fun_mk (st := s__law_well) l__law_well c__law_well k__law_well).binds (ps := p__law_well) fun _ _ _ _ _ _ us hl => match us, hl with | [_], _ => rfl
    g__law_well := PySem.W.mg_of X G h__law_well
    k__law_well := k__law_well
    f__law_draw := fun_mk (st := s__law_draw) l__law_draw c__law_draw k__law_draw
    bi__law_draw := (fun_mk (st := s__law_draw) l__law_draw c__law_draw k__law_draw).binds (ps := p__law_draw) fun _ _ _ _ _ _ us hl => match us, hl with | [_, _], _ => rfl
    g__law_draw := PySem.W.mg_of X G h__law_draw
    k__law_draw := k__law_draw
    f__law_one := fun_mk (st := s__law_one) l__law_one c__law_one k__law_one
    bi__law_one := (fun_mk (st := s__law_one) l__law_one c__law_one k__law_one).binds (ps := p__law_one) fun _ _ _ _ _ _ us hl => match us, hl with | [_, _], _ => rfl
    g__law_one := PySem.W.mg_of X G h__law_one
    k__law_one := k__law_one
    f__law_fits := fun_mk (st := s__law_fits) l__law_fits c__law_fits k__law_fits
    bi__law_fits := (fun_mk (st := s__law_fits) l__law_fits c__law_fits k__law_fits).binds (ps := p__law_fits) fun _ _ _ _ _ _ us hl => match us, hl with | [_, _], _ => rfl
    g__law_fits := PySem.W.mg_of X G h__law_fits
    k__law_fits := k__law_fits
    f__law_said := fun_mk (st := s__law_said) l__law_said c__law_said k__law_said
    bi__law_said := (fun_mk (st := s__law_said) l__law_said c__law_said k__law_said).binds (ps := p__law_said) fun _ _ _ _ _ _ us hl => match us, hl with | [_], _ => rfl
    g__law_said := PySem.W.mg_of X G h__law_said
    k__law_said := k__law_said
    f__law_widest := fun_mk (st := s__law_widest) l__law_widest c__law_widest k__law_widest
    bi__law_widest := (fun_mk (st := s__law_widest) l__law_widest c__law_widest k__law_widest).binds (ps := p__law_widest) fun _ _ _ _ _ _ us hl => match us, hl with | [_], _ => rfl
    g__law_widest := PySem.W.mg_of X G h__law_widest
    k__law_widest := k__law_widest
    f__law_refused := fun_mk (st := s__law_refused) l__law_refused c__law_refused k__law_refused
    bi__law_refused := (fun_mk (st := s__law_refused) l__law_refused c__law_refused k__law_refused).binds (ps := p__law_refused) fun _ _ _ _ _ _ us hl => match us, hl with | [_, _, _], _ => rfl
    fl__law_refused := ⟨⟨_, _, _, _, _, _, _, _, rfl, l__law_refused, c__law_refused⟩⟩
    g__law_refused := PySem.W.mg_of X G h__law_refused
    k__law_refused := k__law_refused
    f_law := fun_mk (st := s_law) l_law c_law k_law
    bi_law := (fun_mk (st := s_law) l_law c_law k_law).binds (ps := p_law) fun _ _ _ _ _ _ us hl => match us, hl with | [_], _ => rfl
    fl_law := ⟨⟨_, _, _, _, _, _, _, _, rfl, l_law, c_law⟩⟩
    g_law := PySem.W.mg_of X G h_law
    k_law := k_law
    g_NoProcess := PySem.W.mg_of X G h_NoProcess
    g_NoPages := PySem.W.mg_of X G h_NoPages
    g_NoFile := PySem.W.mg_of X G h_NoFile
    g_PageError := PySem.W.mg_of X G h_PageError
    g_System := PySem.W.mg_of X G h_System
    g_Page := PySem.W.mg_of X G h_Page
    g_History := PySem.W.mg_of X G h_History
    f_NoProcess_init := fun_mk (st := s_NoProcess_init) l_NoProcess_init c_NoProcess_init k_NoProcess_init
    bi_NoProcess_init := (fun_mk (st := s_NoProcess_init) l_NoProcess_init c_NoProcess_init k_NoProcess_init).binds (ps := p_NoProcess_init) fun _ _ _ _ _ _ us hl => match us, hl with | [_, _], _ => rfl
    f_NoPages_init := fun_mk (st := s_NoPages_init) l_NoPages_init c_NoPages_init k_NoPages_init
    bi_NoPages_init := (fun_mk (st := s_NoPages_init) l_NoPages_init c_NoPages_init k_NoPages_init).binds (ps := p_NoPages_init) fun _ _ _ _ _ _ us hl => match us, hl with | [_, _], _ => rfl
    f_NoFile_init := fun_mk (st := s_NoFile_init) l_NoFile_init c_NoFile_init k_NoFile_init
    bi_NoFile_init := (fun_mk (st := s_NoFile_init) l_NoFile_init c_NoFile_init k_NoFile_init).binds (ps := p_NoFile_init) fun _ _ _ _ _ _ us hl => match us, hl with | [_, _], _ => rfl
    f_Page_init := fun_mk (st := s_Page_init) l_Page_init c_Page_init k_Page_init
    bi_Page_init := (fun_mk (st := s_Page_init) l_Page_init c_Page_init k_Page_init).binds (ps := p_Page_init) fun _ _ _ _ _ _ us hl => match us, hl with | [_, _, _, _, _, _, _, _], _ => rfl
    f_History_init := fun_mk (st := s_History_init) l_History_init c_History_init k_History_init
    bi_History_init := (fun_mk (st := s_History_init) l_History_init c_History_init k_History_init).binds (ps := p_History_init) fun _ _ _ _ _ _ us hl => match us, hl with | [_], _ => rfl
    f_System_init := ⟨⟨_, _, _, _, _, _, _, _, _, _, rfl, l_System_init, c_System_init, .inl ⟨rfl, rfl⟩, .inr ⟨kD_System_init, rfl, by
      intro q hq
      simp only [kw_System_init, List.mem_cons, List.not_mem_nil, or_false] at hq
      rcases hq with h | h | h
      · subst h; exact ⟨_, kd_System_init_frames, rfl⟩
      · subst h; exact ⟨_, kd_System_init_slots, rfl⟩
      · subst h; exact ⟨_, kd_System_init_strict, rfl⟩⟩⟩, k_System_init⟩
    x_NoProcess := ⟨⟨_, _, _, _, _, _, _, _, _, _, _, _, _, _, _, xL_NoProcess, xR_NoProcess⟩, xS_NoProcess, xE_NoProcess, xT_NoProcess, xK_NoProcess⟩
    xf_NoProcess := ⟨xG_NoProcess, xH_NoProcess, xE_NoProcess, xD_NoProcess⟩
    xn_NoProcess := xN_NoProcess
    xi_NoProcess := h_NoProcess_init
    xt_NoProcess := xi_NoProcess
    x_NoPages := ⟨⟨_, _, _, _, _, _, _, _, _, _, _, _, _, _, _, xL_NoPages, xR_NoPages⟩, xS_NoPages, xE_NoPages, xT_NoPages, xK_NoPages⟩
    xf_NoPages := ⟨xG_NoPages, xH_NoPages, xE_NoPages, xD_NoPages⟩
    xn_NoPages := xN_NoPages
    xi_NoPages := h_NoPages_init
    xt_NoPages := xi_NoPages
    x_NoFile := ⟨⟨_, _, _, _, _, _, _, _, _, _, _, _, _, _, _, xL_NoFile, xR_NoFile⟩, xS_NoFile, xE_NoFile, xT_NoFile, xK_NoFile⟩
    xf_NoFile := ⟨xG_NoFile, xH_NoFile, xE_NoFile, xD_NoFile⟩
    xn_NoFile := xN_NoFile
    xi_NoFile := h_NoFile_init
    xt_NoFile := xi_NoFile
    x_PageError := ⟨⟨_, _, _, _, _, _, _, _, _, _, _, _, _, _, _, xL_PageError, xR_PageError⟩, xS_PageError, xE_PageError, xT_PageError, xK_PageError⟩
    xf_PageError := ⟨xG_PageError, xH_PageError, xE_PageError, xD_PageError⟩
    e_NoPages_NoPages := exm_is xE_NoPages xC_NoPages xT_NoPages xx_NoPages_NoPages
    e_NoProcess_NoPages := exm_is xE_NoPages xC_NoPages xT_NoPages xx_NoProcess_NoPages
    e_NoProcess_NoProcess := exm_is xE_NoProcess xC_NoProcess xT_NoProcess xx_NoProcess_NoProcess
    cl_System := ⟨pg_System, hd_System, po_System, sa_System⟩
    mk_System := ⟨mk_System, h_System_init, ii_System, kc_System⟩
    n_System_frames := na_System_frames
    n_System_slots := na_System_slots
    n_System_strict := na_System_strict
    n_System_steps_made := na_System_steps_made
    n_System_processes_made := na_System_processes_made
    n_System_objects_made := na_System_objects_made
    n_System_tables := na_System_tables
    n_System_objects := na_System_objects
    n_System_object_pages := na_System_object_pages
    n_System_files := na_System_files
    n_System_classes := na_System_classes
    n_System_locked_pages := na_System_locked_pages
    n_System_memory := na_System_memory
    n_System_swapped := na_System_swapped
    n_System_faults := na_System_faults
    n_System_swap_outs := na_System_swap_outs
    n_System_write_backs := na_System_write_backs
    n_System_history := na_System_history
    cl_Page := ⟨pg_Page, hd_Page, po_Page, sa_Page⟩
    mk_Page := ⟨mk_Page, h_Page_init, ii_Page, kc_Page⟩
    n_Page_rights := na_Page_rights
    n_Page_shared := na_Page_shared
    n_Page_source := na_Page_source
    n_Page_index := na_Page_index
    n_Page_flags := na_Page_flags
    n_Page_held := na_Page_held
    n_Page_stamp := na_Page_stamp
    cl_History := ⟨pg_History, hd_History, po_History, sa_History⟩
    mk_History := ⟨mk_History, h_History_init, ii_History, kc_History⟩
    n_History_row := na_History_row
    n_History_holes := na_History_holes
    n_History_locked := na_History_locked
    n_History_classes := na_History_classes
    n_History_touches := na_History_touches
    n_History_distances := na_History_distances
    n_History_swap_outs := na_History_swap_outs
    n_History_write_backs := na_History_write_backs
    n_History_most_slots := na_History_most_slots
    n_History_saves := na_History_saves
    n_History_lock_changes := na_History_lock_changes
    n_History_most_locked := na_History_most_locked
    n_History_crashed := na_History_crashed
    n_History_merged := na_History_merged
    g_PAGES := PySem.W.mg_of X G gc_PAGES
    b_int := PySem.W.mg_none_of X G b_int
    b_len := PySem.W.mg_none_of X G b_len
    b_isinstance := PySem.W.mg_none_of X G b_isinstance
    b_bool := PySem.W.mg_none_of X G b_bool
    b_str := PySem.W.mg_none_of X G b_str
    b_list := PySem.W.mg_none_of X G b_list
    b_range := PySem.W.mg_none_of X G b_range
    b_enumerate := PySem.W.mg_none_of X G b_enumerate
    b_min := PySem.W.mg_none_of X G b_min
    b_max := PySem.W.mg_none_of X G b_max
    b_sorted := PySem.W.mg_none_of X G b_sorted
    b_dict := PySem.W.mg_none_of X G b_dict
    b_tuple := PySem.W.mg_none_of X G b_tuple
    g_RIGHTS := PySem.W.mg_of X G gR
    r_RIGHTS := rR }
theorem fin {l : PySem.W.OpenLaw} {w : World} {K : PySem.W.Frag} {mg : Str → Option Value} {fa : Addr} {h : Heap} {A : Adr} {e1 e2 : Value} {dd1 dd2 : Option Addr} {vs1 vs2 : Array Value} {sl1 sl2 : Array (Option Value)}
    (G : Txt K mg A) (KX : K.In h) (hmg : mg "law" = some (.ref fa))
    (lc1 : K.lookup A.co_law = some ⟨e1, dd1, .fields vs1, sl1⟩) (v1 : vs1[11]? = some (.ref A.ta_law)) (n1 : K.lookup A.ta_law = none) (d1 : PySem.W.codeHdIn K A.co_law A.ta_law = true)
    (t1 : h.get? A.ta_law = some { cls := .none, data := .fields #[] })
    (lc2 : K.lookup A.co__law_refused = some ⟨e2, dd2, .fields vs2, sl2⟩) (v2 : vs2[11]? = some (.ref A.ta__law_refused)) (n2 : K.lookup A.ta__law_refused = none) (d2 : PySem.W.codeHdIn K A.co__law_refused A.ta__law_refused = true)
    (t2 : h.get? A.ta__law_refused = some { cls := .none, data := .fields #[] }) (ne : A.ta_law ≠ A.ta__law_refused) : LamX.LawAtS l w K CX0 9 63 "script" mg fa h := by
  have ea : A.a_law = fa := by
    have := G.g_law.symm.trans hmg
    cases this
    rfl
  obtain ⟨oc, od, kV, doc, pm, an, ct, osl, hfd, lk, hcd⟩ := G.fl_law.ex
  refine ⟨A.fd_law, [(A.co_law, A.ta_law), (A.co__law_refused, A.ta__law_refused)], spLaw K A, ?_, ?_, ?_, ?_, ?_, ?_⟩
  · intro p hp
    rcases List.mem_cons.mp hp with rfl | hp
    · exact t1
    · rw [List.mem_singleton.mp hp]; exact t2
  · intro p hp
    rcases List.mem_cons.mp hp with rfl | hp
    · exact n1
    · rw [List.mem_singleton.mp hp]; exact n2
  · intro p hp
    rcases List.mem_cons.mp hp with rfl | hp
    · exact PySem.W.codeHd_of_K KX d1
    · rw [List.mem_singleton.mp hp]; exact PySem.W.codeHd_of_K KX d2
  · intro s u
    rw [hfd]
    exact .of_eq rfl
  · intro H a ns hn _ hT hS
    refine ⟨a, ns, rfl, hS, hn, fun p hp => ?_, fun _ => rfl⟩
    rcases List.mem_cons.mp hp with rfl | hp
    · exact LamX.TabS.nil (hT _ List.mem_cons_self)
    · rw [List.mem_singleton.mp hp]; exact LamX.TabS.nil (hT (A.co__law_refused, A.ta__law_refused) (List.mem_cons_of_mem _ (List.mem_singleton.mpr rfl)))
  · intro base _ _ hB
    rw [← ea]
    exact ok_law G ⟨hB _ List.mem_cons_self, hB (A.co__law_refused, A.ta__law_refused) (List.mem_cons_of_mem _ (List.mem_singleton.mpr rfl)), ne⟩
end My
open PySem PySem.W PyProof.Rows
set_option maxRecDepth 100000 in
set_option maxHeartbeats 0 in
theorem PySem.Challenge.cw_pageclass_k05_gaps_holds : PySem.Challenge.rw_pageclass_k05_gaps.Holds := by
  w_on; o_law; k_head; (case hw => w_witness2)
  k_fill
  refine LamX.walk_ofTs (l := PySem.Challenge.rw_pageclass_k05_gaps) (CX := fun _ => L2.CX0) (k := 9) (n := 63) (x := "script") rfl (by decide) rfl ⟨rfl, by decide, by decide⟩ (fun w h Y => PySem.W.km_in_of Y) ?F (fun _ _ _ _ _ z => z)
  case F =>
    intro w mg fa h Y KX G hmg
    refine' My.fin (My.all_mk KX G ?h_attributes ?l_attributes ?c_attributes ?k_attributes ?h_has_object ?l_has_object ?c_has_object ?k_has_object ?h_arrange_locked ?l_arrange_locked ?c_arrange_locked ?k_arrange_locked ?h_add_locked ?l_add_locked ?c_add_locked ?k_add_locked ?h_this_step ?l_this_step ?c_this_step ?k_this_step ?h_count_page ?l_count_page ?c_count_page ?k_count_page ?h_discount_page ?l_discount_page ?c_discount_page ?k_discount_page ?h_discount_user ?l_discount_user ?c_discount_user ?k_discount_user ?h_replace_pages ?l_replace_pages ?c_replace_pages ?k_replace_pages ?h_end_step ?l_end_step ?c_end_step ?k_end_step ?h_is_integer ?l_is_integer ?c_is_integer ?k_is_integer ?h_is_word ?l_is_word ?c_is_word ?k_is_word ?h_require ?l_require ?c_require ?k_require ?h_table_of ?l_table_of ?c_table_of ?k_table_of ?h_numbers_of ?l_numbers_of ?c_numbers_of ?k_numbers_of ?h_file_of ?l_file_of ?c_file_of ?k_file_of ?h_require_charge ?l_require_charge ?c_require_charge ?k_require_charge ?h_require_source ?l_require_source ?c_require_source ?k_require_source ?h_place_for ?l_place_for ?c_place_for ?k_place_for ?h_map_pages ?l_map_pages ?c_map_pages ?k_map_pages ?kd_map_pages_rights ?kd_map_pages_shared ?kd_map_pages_source ?kd_map_pages_index ?kd_map_pages_at ?h_new_pages ?l_new_pages ?c_new_pages ?k_new_pages ?h_unmap ?l_unmap ?c_unmap ?k_unmap ?h_continues ?l_continues ?c_continues ?k_continues ?h_regions ?l_regions ?c_regions ?k_regions ?h_free_runs ?l_free_runs ?c_free_runs ?k_free_runs ?h_lowest_gap ?l_lowest_gap ?c_lowest_gap ?k_lowest_gap ?h_gap ?l_gap ?c_gap ?k_gap ?h_widest ?l_widest ?c_widest ?k_widest ?h_new_process ?l_new_process ?c_new_process ?k_new_process ?h_spawn ?l_spawn ?c_spawn ?k_spawn ?h__law_well ?l__law_well ?c__law_well ?k__law_well ?h__law_draw ?l__law_draw ?c__law_draw ?k__law_draw ?h__law_one ?l__law_one ?c__law_one ?k__law_one ?h__law_fits ?l__law_fits ?c__law_fits ?k__law_fits ?h__law_said ?l__law_said ?c__law_said ?k__law_said ?h__law_widest ?l__law_widest ?c__law_widest ?k__law_widest ?h__law_refused ?l__law_refused ?c__law_refused ?k__law_refused ?h_law ?l_law ?c_law ?k_law ?h_NoProcess ?h_NoPages ?h_NoFile ?h_PageError ?h_System ?h_Page ?h_History ?h_NoProcess_init ?l_NoProcess_init ?c_NoProcess_init ?k_NoProcess_init ?h_NoPages_init ?l_NoPages_init ?c_NoPages_init ?k_NoPages_init ?h_NoFile_init ?l_NoFile_init ?c_NoFile_init ?k_NoFile_init ?h_Page_init ?l_Page_init ?c_Page_init ?k_Page_init ?h_History_init ?l_History_init ?c_History_init ?k_History_init ?h_System_init ?l_System_init ?c_System_init ?k_System_init ?kd_System_init_frames ?kd_System_init_slots ?kd_System_init_strict ?xL_NoProcess ?xR_NoProcess ?xS_NoProcess ?xE_NoProcess ?xT_NoProcess ?xK_NoProcess ?xG_NoProcess ?xH_NoProcess ?xD_NoProcess ?xC_NoProcess ?xN_NoProcess ?xi_NoProcess ?xL_NoPages ?xR_NoPages ?xS_NoPages ?xE_NoPages ?xT_NoPages ?xK_NoPages ?xG_NoPages ?xH_NoPages ?xD_NoPages ?xC_NoPages ?xN_NoPages ?xi_NoPages ?xL_NoFile ?xR_NoFile ?xS_NoFile ?xE_NoFile ?xT_NoFile ?xK_NoFile ?xG_NoFile ?xH_NoFile ?xD_NoFile ?xC_NoFile ?xN_NoFile ?xi_NoFile ?xL_PageError ?xR_PageError ?xS_PageError ?xE_PageError ?xT_PageError ?xK_PageError ?xG_PageError ?xH_PageError ?xD_PageError ?xC_PageError ?xx_NoPages_NoPages ?xx_NoProcess_NoPages ?xx_NoProcess_NoProcess ?pg_System ?hd_System ?po_System ?sa_System ?mk_System ?kc_System ?ii_System ?na_System_frames ?na_System_slots ?na_System_strict ?na_System_steps_made ?na_System_processes_made ?na_System_objects_made ?na_System_tables ?na_System_objects ?na_System_object_pages ?na_System_files ?na_System_classes ?na_System_locked_pages ?na_System_memory ?na_System_swapped ?na_System_faults ?na_System_swap_outs ?na_System_write_backs ?na_System_history ?pg_Page ?hd_Page ?po_Page ?sa_Page ?mk_Page ?kc_Page ?ii_Page ?na_Page_rights ?na_Page_shared ?na_Page_source ?na_Page_index ?na_Page_flags ?na_Page_held ?na_Page_stamp ?pg_History ?hd_History ?po_History ?sa_History ?mk_History ?kc_History ?ii_History ?na_History_row ?na_History_holes ?na_History_locked ?na_History_classes ?na_History_touches ?na_History_distances ?na_History_swap_outs ?na_History_write_backs ?na_History_most_slots ?na_History_saves ?na_History_lock_changes ?na_History_most_locked ?na_History_crashed ?na_History_merged ?gc_PAGES ?b_int ?b_len ?b_isinstance ?b_bool ?b_str ?b_list ?b_range ?b_enumerate ?b_min ?b_max ?b_sorted ?b_dict ?b_tuple ?gR ?rR) KX hmg ?lc1 ?v1 ?n1 ?d1 ?t1 ?lc2 ?v2 ?n2 ?d2 ?t2 ?ne
    (case h_attributes => k_is)
    (case l_attributes => k_is)
    (case c_attributes => k_is)
    (case k_attributes => k_is)
    (case h_has_object => k_is)
    (case l_has_object => k_is)
    (case c_has_object => k_is)
    (case k_has_object => k_is)
    (case h_arrange_locked => k_is)
    (case l_arrange_locked => k_is)
    (case c_arrange_locked => k_is)
    (case k_arrange_locked => k_is)
    (case h_add_locked => k_is)
    (case l_add_locked => k_is)
    (case c_add_locked => k_is)
    (case k_add_locked => k_is)
    (case h_this_step => k_is)
    (case l_this_step => k_is)
    (case c_this_step => k_is)
    (case k_this_step => k_is)
    (case h_count_page => k_is)
    (case l_count_page => k_is)
    (case c_count_page => k_is)
    (case k_count_page => k_is)
    (case h_discount_page => k_is)
    (case l_discount_page => k_is)
    (case c_discount_page => k_is)
    (case k_discount_page => k_is)
    (case h_discount_user => k_is)
    (case l_discount_user => k_is)
    (case c_discount_user => k_is)
    (case k_discount_user => k_is)
    (case h_replace_pages => k_is)
    (case l_replace_pages => k_is)
    (case c_replace_pages => k_is)
    (case k_replace_pages => k_is)
    (case h_end_step => k_is)
    (case l_end_step => k_is)
    (case c_end_step => k_is)
    (case k_end_step => k_is)
    (case h_is_integer => k_is)
    (case l_is_integer => k_is)
    (case c_is_integer => k_is)
    (case k_is_integer => k_is)
    (case h_is_word => k_is)
    (case l_is_word => k_is)
    (case c_is_word => k_is)
    (case k_is_word => k_is)
    (case h_require => k_is)
    (case l_require => k_is)
    (case c_require => k_is)
    (case k_require => k_is)
    (case h_table_of => k_is)
    (case l_table_of => k_is)
    (case c_table_of => k_is)
    (case k_table_of => k_is)
    (case h_numbers_of => k_is)
    (case l_numbers_of => k_is)
    (case c_numbers_of => k_is)
    (case k_numbers_of => k_is)
    (case h_file_of => k_is)
    (case l_file_of => k_is)
    (case c_file_of => k_is)
    (case k_file_of => k_is)
    (case h_require_charge => k_is)
    (case l_require_charge => k_is)
    (case c_require_charge => k_is)
    (case k_require_charge => k_is)
    (case h_require_source => k_is)
    (case l_require_source => k_is)
    (case c_require_source => k_is)
    (case k_require_source => k_is)
    (case h_place_for => k_is)
    (case l_place_for => k_is)
    (case c_place_for => k_is)
    (case k_place_for => k_is)
    (case h_map_pages => k_is)
    (case l_map_pages => k_is)
    (case c_map_pages => k_is)
    (case k_map_pages => k_is)
    (case kd_map_pages_rights => k_is)
    (case kd_map_pages_shared => k_is)
    (case kd_map_pages_source => k_is)
    (case kd_map_pages_index => k_is)
    (case kd_map_pages_at => k_is)
    (case h_new_pages => k_is)
    (case l_new_pages => k_is)
    (case c_new_pages => k_is)
    (case k_new_pages => k_is)
    (case h_unmap => k_is)
    (case l_unmap => k_is)
    (case c_unmap => k_is)
    (case k_unmap => k_is)
    (case h_continues => k_is)
    (case l_continues => k_is)
    (case c_continues => k_is)
    (case k_continues => k_is)
    (case h_regions => k_is)
    (case l_regions => k_is)
    (case c_regions => k_is)
    (case k_regions => k_is)
    (case h_free_runs => k_is)
    (case l_free_runs => k_is)
    (case c_free_runs => k_is)
    (case k_free_runs => k_is)
    (case h_lowest_gap => k_is)
    (case l_lowest_gap => k_is)
    (case c_lowest_gap => k_is)
    (case k_lowest_gap => k_is)
    (case h_gap => k_is)
    (case l_gap => k_is)
    (case c_gap => k_is)
    (case k_gap => k_is)
    (case h_widest => k_is)
    (case l_widest => k_is)
    (case c_widest => k_is)
    (case k_widest => k_is)
    (case h_new_process => k_is)
    (case l_new_process => k_is)
    (case c_new_process => k_is)
    (case k_new_process => k_is)
    (case h_spawn => k_is)
    (case l_spawn => k_is)
    (case c_spawn => k_is)
    (case k_spawn => k_is)
    (case h__law_well => k_is)
    (case l__law_well => k_is)
    (case c__law_well => k_is)
    (case k__law_well => k_is)
    (case h__law_draw => k_is)
    (case l__law_draw => k_is)
    (case c__law_draw => k_is)
    (case k__law_draw => k_is)
    (case h__law_one => k_is)
    (case l__law_one => k_is)
    (case c__law_one => k_is)
    (case k__law_one => k_is)
    (case h__law_fits => k_is)
    (case l__law_fits => k_is)
    (case c__law_fits => k_is)
    (case k__law_fits => k_is)
    (case h__law_said => k_is)
    (case l__law_said => k_is)
    (case c__law_said => k_is)
    (case k__law_said => k_is)
    (case h__law_widest => k_is)
    (case l__law_widest => k_is)
    (case c__law_widest => k_is)
    (case k__law_widest => k_is)
    (case h__law_refused => k_is)
    (case l__law_refused => k_is)
    (case c__law_refused => k_is)
    (case k__law_refused => k_is)
    (case h_law => k_is)
    (case l_law => k_is)
    (case c_law => k_is)
    (case k_law => k_is)
    (case h_NoProcess => k_is)
    (case h_NoPages => k_is)
    (case h_NoFile => k_is)
    (case h_PageError => k_is)
    (case h_System => k_is)
    (case h_Page => k_is)
    (case h_History => k_is)
    (case h_NoProcess_init => k_is)
    (case l_NoProcess_init => k_is)
    (case c_NoProcess_init => k_is)
    (case k_NoProcess_init => k_is)
    (case h_NoPages_init => k_is)
    (case l_NoPages_init => k_is)
    (case c_NoPages_init => k_is)
    (case k_NoPages_init => k_is)
    (case h_NoFile_init => k_is)
    (case l_NoFile_init => k_is)
    (case c_NoFile_init => k_is)
    (case k_NoFile_init => k_is)
    (case h_Page_init => k_is)
    (case l_Page_init => k_is)
    (case c_Page_init => k_is)
    (case k_Page_init => k_is)
    (case h_History_init => k_is)
    (case l_History_init => k_is)
    (case c_History_init => k_is)
    (case k_History_init => k_is)
    (case h_System_init => k_is)
    (case l_System_init => k_is)
    (case c_System_init => k_is)
    (case k_System_init => k_is)
    (case kd_System_init_frames => k_is)
    (case kd_System_init_slots => k_is)
    (case kd_System_init_strict => k_is)
    (case xL_NoProcess => k_is)
    (case xR_NoProcess => first | k_is | rfl | decide +kernel)
    (case xS_NoProcess => k_is)
    (case xE_NoProcess => k_is)
    (case xT_NoProcess => k_is)
    (case xK_NoProcess => k_is)
    (case xG_NoProcess => k_is)
    (case xH_NoProcess => k_is)
    (case xD_NoProcess => k_is)
    (case xC_NoProcess => k_is)
    (case xN_NoProcess => k_is)
    (case xi_NoProcess => k_is)
    (case xL_NoPages => k_is)
    (case xR_NoPages => first | k_is | rfl | decide +kernel)
    (case xS_NoPages => k_is)
    (case xE_NoPages => k_is)
    (case xT_NoPages => k_is)
    (case xK_NoPages => k_is)
    (case xG_NoPages => k_is)
    (case xH_NoPages => k_is)
    (case xD_NoPages => k_is)
    (case xC_NoPages => k_is)
    (case xN_NoPages => k_is)
    (case xi_NoPages => k_is)
    (case xL_NoFile => k_is)
    (case xR_NoFile => first | k_is | rfl | decide +kernel)
    (case xS_NoFile => k_is)
    (case xE_NoFile => k_is)
    (case xT_NoFile => k_is)
    (case xK_NoFile => k_is)
    (case xG_NoFile => k_is)
    (case xH_NoFile => k_is)
    (case xD_NoFile => k_is)
    (case xC_NoFile => k_is)
    (case xN_NoFile => k_is)
    (case xi_NoFile => k_is)
    (case xL_PageError => k_is)
    (case xR_PageError => first | k_is | rfl | decide +kernel)
    (case xS_PageError => k_is)
    (case xE_PageError => k_is)
    (case xT_PageError => k_is)
    (case xK_PageError => k_is)
    (case xG_PageError => k_is)
    (case xH_PageError => k_is)
    (case xD_PageError => k_is)
    (case xC_PageError => k_is)
    (case xx_NoPages_NoPages => first | rfl | k_is)
    (case xx_NoProcess_NoPages => first | rfl | k_is)
    (case xx_NoProcess_NoProcess => first | rfl | k_is)
    (case pg_System => k_is)
    (case hd_System => k_is)
    (case po_System => k_is)
    (case sa_System => k_is)
    (case mk_System => k_is)
    (case kc_System => k_is)
    (case ii_System => k_is)
    (case na_System_frames => k_is)
    (case na_System_slots => k_is)
    (case na_System_strict => k_is)
    (case na_System_steps_made => k_is)
    (case na_System_processes_made => k_is)
    (case na_System_objects_made => k_is)
    (case na_System_tables => k_is)
    (case na_System_objects => k_is)
    (case na_System_object_pages => k_is)
    (case na_System_files => k_is)
    (case na_System_classes => k_is)
    (case na_System_locked_pages => k_is)
    (case na_System_memory => k_is)
    (case na_System_swapped => k_is)
    (case na_System_faults => k_is)
    (case na_System_swap_outs => k_is)
    (case na_System_write_backs => k_is)
    (case na_System_history => k_is)
    (case pg_Page => k_is)
    (case hd_Page => k_is)
    (case po_Page => k_is)
    (case sa_Page => k_is)
    (case mk_Page => k_is)
    (case kc_Page => k_is)
    (case ii_Page => k_is)
    (case na_Page_rights => k_is)
    (case na_Page_shared => k_is)
    (case na_Page_source => k_is)
    (case na_Page_index => k_is)
    (case na_Page_flags => k_is)
    (case na_Page_held => k_is)
    (case na_Page_stamp => k_is)
    (case pg_History => k_is)
    (case hd_History => k_is)
    (case po_History => k_is)
    (case sa_History => k_is)
    (case mk_History => k_is)
    (case kc_History => k_is)
    (case ii_History => k_is)
    (case na_History_row => k_is)
    (case na_History_holes => k_is)
    (case na_History_locked => k_is)
    (case na_History_classes => k_is)
    (case na_History_touches => k_is)
    (case na_History_distances => k_is)
    (case na_History_swap_outs => k_is)
    (case na_History_write_backs => k_is)
    (case na_History_most_slots => k_is)
    (case na_History_saves => k_is)
    (case na_History_lock_changes => k_is)
    (case na_History_most_locked => k_is)
    (case na_History_crashed => k_is)
    (case na_History_merged => k_is)
    (case gc_PAGES => k_is)
    (case b_int => k_is)
    (case b_len => k_is)
    (case b_isinstance => k_is)
    (case b_bool => k_is)
    (case b_str => k_is)
    (case b_list => k_is)
    (case b_range => k_is)
    (case b_enumerate => k_is)
    (case b_min => k_is)
    (case b_max => k_is)
    (case b_sorted => k_is)
    (case b_dict => k_is)
    (case b_tuple => k_is)
    (case gR => k_is)
    (case rR => first | rfl | decide +kernel)

    (case lc1 => k_is)
    (case v1 => rfl)
    (case n1 => first | rfl | decide +kernel)
    (case d1 => first | rfl | decide +kernel)
    (case t1 => exact PySem.W.km_tabs_of Y _ (by simp))
    (case lc2 => k_is)
    (case v2 => rfl)
    (case n2 => first | rfl | decide +kernel)
    (case d2 => first | rfl | decide +kernel)
    (case t2 => exact PySem.W.km_tabs_of Y _ (by simp))
    (case ne => decide)
