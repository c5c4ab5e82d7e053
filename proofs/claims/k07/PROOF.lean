import PyProof.Rows.All
import Wide.All
import OpenK.AllK
import Wide.FinOn
import HandS.ForMost
import HandS.ForExc
import HandS.ExcField
import HandS.ExcInit
import HandS.DictComp
import HandS.Lambda
import HandS.IsInst
import HandS.MakeKwOnly
import HandS.EndTab
import HandS.EndOwn
import HandS.More
import PyProof.NeKinds
import HandS.ExcIs
import HandS.ExcOwn
import HandS.ExcValue
import KE.KExcStr
import KE.KExcIs
import HandS.Walk
import PySem.Challenge.RW_pageclass_k07_errors_by_hand
set_option Elab.async false
set_option linter.all false
set_option maxRecDepth 100000
set_option maxHeartbeats 4000000
/-! own rules, over the hand layer -/
namespace L2
open PySem PySem.Spec PyProof.Rows
section
variable {X : Cx}
/-- an expression that no way reaches -/
theorem pe_nev {e : Expr} : PE X e (fun _ _ _ => False) := ⟨fun _ _ _ _ _ _ z => z.elim⟩
theorem pts_nev {es : List Expr} : PTs X es (fun _ _ _ => False) := ⟨fun _ _ _ _ _ _ z => z.elim⟩

/-! a name that a dict comprehension is given to -/
theorem sw_dict {kx vx : Expr} {gs : List Comprehension} {scope : Scope} {pos py : Pos} {y : Str} {l : Nat} {env : Env}
    (fk : env.scope.kind = .function) (fy : env.scope.names.lookup y = some .local) (fl : (py.line == pos.line) = true)
    (fa : (scope.names.any fun (n, k) => n == y && (k == .local || k == .cell)) = false) :
    swapsWith (.DictComp kx vx gs scope pos) (some (.Name y py)) l env = pure true := by
  have q1 : env.kindOf y = some .local := fy
  have q2 : env.blockKind = .function := by
    unfold Env.blockKind
    rw [fk]
    rfl
  unfold swapsWith
  simp only [q1, q2, fa, fl, Expr.pos]
  rfl
theorem ps_setDc {i : Nat} {y : Str} {py : Pos} {kx vx tg iter : Expr} {ifs : List Expr} {scope : Scope} {own : List (Str × Nat)} {pos spos : Pos}
    {wi : TI} {g : TG} {tt : TT} {tk tv : TE} (hc : X.calm = true) (hN : X.N.Nodup) (hy : X.N[i]? = some y)
    (hyl : X.env.scope.names.lookup y = some .local)
    (hsw : swapsWith (.DictComp kx vx [⟨tg, iter, ifs, 0⟩] scope pos) (some (.Name y py)) spos.line X.env = pure true)
    (hi : PI X tg iter wi) (ok : BlkOk X.N X.env.scope scope own)
    (hg : ∀ (s : Shared) (H : Hp) (C : Addr) (cl : List (Str × Addr)) (fp : List Addr),
      PG (X.blk s H scope (compEnvC scope cl C X.env) fp) tg g)
    (ht : ∀ (s : Shared) (H : Hp) (C : Addr) (cl : List (Str × Addr)) (fp : List Addr),
      PTs (X.blk s H scope (compEnvC scope cl C X.env) fp) ifs tt)
    (hk : ∀ (s : Shared) (H : Hp) (C : Addr) (cl : List (Str × Addr)) (fp : List Addr),
      PE (X.blk s H scope (compEnvC scope cl C X.env) fp) kx tk)
    (he : ∀ (s : Shared) (H : Hp) (C : Addr) (cl : List (Str × Addr)) (fp : List Addr),
      PE (X.blk s H scope (compEnvC scope cl C X.env) fp) vx tv)
    (hs : ∀ x, foldedSetIterable iter X.env x = pure x := by intro _; rfl) :
    PS X (.Assign [.Name y py] (.DictComp kx vx [⟨tg, iter, ifs, 0⟩] scope pos) spos)
      (tAsg (tDc wi g tt tk tv (own.map (·.2))) (gName i)) := by
  refine ⟨fun pins s σ H D I h => ?_⟩
  rw [exec_Assign_Name_used _ _ _ _ hsw]
  refine wpAny_bind (wpAny_standAt (wpAny_bind ?_))
  show wpAny _ X.A (do
    let _ ← comprehension (.DictComp kx vx [⟨tg, iter, ifs, 0⟩] scope pos) scope X.env (firstIterPos [⟨tg, iter, ifs, 0⟩] pos)
      newDict false (eval iter X.env) (some (assign (.Name y py) X.env))) _ _ s
  have h' : tDc wi g tt tk tv (own.map (·.2)) σ H (fun x H1 => gName i x σ H1 D.nx) := h
  refine wpAny_bind (thn (dc_core (Qf := fun _ s' => SP X pins D .next s') hc hN I hi ok hg ht hk he hs h'
    fun L C s' m H' J q hn f => ?_) fun _ s' hq => wpAny_pure (wpAny_pure hq))
  show wpAny _ _ (assign (.Name y py) X.env (.ref L)) _ _ _
  refine wpAny_assign_Name (store_ok2 (v := V.ref L) J hN hy (.inl hyl) rfl (fun s2 J2 ⟨a, sb, ha⟩ => ?_) (.inr hyl))
  obtain ⟨f0, f1, f2, f3, f4, f5⟩ := f
  have hne : C ≠ a := by
    rcases ha with z | z
    · rw [z]
      exact f1
    · exact fun e => f4 y a z e.symm
  exact ⟨m, hn.sameBut sb hne, fun h3 sb3 =>
    ⟨_, H', J2.turned (t' := s2.toks) (fun b o hb e => (sb3.2 b hb).trans e) f0 f1 f3 f4 f5, q⟩⟩
end
/-! ### several except clauses, each with or without a name -/
/-- the ends of a suite whose name is in slot i: behind it the slot is empty -/
def clr (i : Nat) (D : Ends) : Ends where
  nx := fun σ' H' => D.nx (σ'.set i none) H'
  rt := D.rt
  bk := fun σ' H' => D.bk (σ'.set i none) H'
  ct := fun σ' H' => D.ct (σ'.set i none) H'
/-- a clause: its class, the slot of its name, its suite -/
abbrev Cls1 := Value × Option Nat × (Addr → Value → Option Addr → TS)
def suiteT (c : Cls1) (a : Addr) (cls : Value) (d : Option Addr) : TS := fun D σ H => match c.2.1 with
  | none => c.2.2 a cls d D σ H
  | some i => c.2.2 a cls d (clr i D) (σ.set i (some (.ref a))) H
def wCls (K : PySem.W.Frag) (Wo : WX) (D : Ends) : List Cls1 → WX
  | [] => Wo
  | c :: r => fun cls d σ H => ∃ b, PySem.W.exmOne K cls c.1 = some b ∧
      (b = true → ∀ a, H a = none → suiteT c a cls d D σ H) ∧ (b = false → wCls K Wo D r cls d σ H)
inductive ClsOk (X : Cx) : List ExceptHandler → List Cls1 → Prop
  | nil : ClsOk X [] []
  | bare {x : Str} {c : Value} {ts : Addr → Value → Option Addr → TS} {b0 : Stmt} {su : List Stmt} {p1 p2 : Pos} {hs : List ExceptHandler} {l : List Cls1}
      (hc : Names X x c)
      (hsu : ∀ (a : Addr) (oe : Obj) (cls : Value) (d : Option Addr) (pn : List (Addr × Obj)), Zc cls d oe →
        (∃ vs, oe.data = .fields vs) → PSs (X.suite a ((a, oe) :: pn)) (b0 :: su) (ts a cls d)) (r : ClsOk X hs l) :
      ClsOk X (.ExceptHandler (some (.Name x p1)) none (b0 :: su) p2 :: hs) ((c, none, ts) :: l)
  | named {x n : Str} {i : Nat} {c : Value} {ts : Addr → Value → Option Addr → TS} {b0 : Stmt} {su : List Stmt} {p1 p2 : Pos} {hs : List ExceptHandler} {l : List Cls1}
      (hc : Names X x c) (hi : X.N[i]? = some n) (hl : X.env.kindOf n = some .local)
      (hsu : ∀ (a : Addr) (oe : Obj) (cls : Value) (d : Option Addr) (pn : List (Addr × Obj)), Zc cls d oe →
        (∃ vs, oe.data = .fields vs) → PSs (X.suite a ((a, oe) :: pn)) (b0 :: su) (ts a cls d)) (r : ClsOk X hs l) :
      ClsOk X (.ExceptHandler (some (.Name x p1)) (some n) (b0 :: su) p2 :: hs) ((c, some i, ts) :: l)
section
variable {X : Cx} {body : List Stmt} {h0 : ExceptHandler} {hds : List ExceptHandler} {l : List Cls1} {pos : Pos} {tb : WX → TS} {Wo : WX}
theorem ps_try_cls (hs : X.stack = X.env :: X.outer) (hf : X.env.frame = some X.env.locals) (hN : X.N.Nodup) (tk : Takes X Wo)
    (hb : ∀ (W : WX) (pn : List (Addr × Obj)) (xe : Value → Shared → Prop), Takes (X.tr pn xe) W →
      PassesOwn (model X.prog X.w) X.A X.env xe → PSs (X.tr pn xe) body (tb W))
    (hh : ClsOk X (h0 :: hds) l) :
    PS X (.Try body (h0 :: hds) [] [] pos) (fun D σ H => tb (wCls X.K Wo D l) D σ H) := by
  refine ⟨fun pins s σ H D I h => ?_⟩
  have okX := I.ok
  have fr : X.A.frames = some (X.env :: X.outer) := by rw [okX.frames, hs]
  refine wpAny_Try_except ?_
  refine wpAny_mono ((hb (wCls X.K Wo D l) (X.pn ++ pins)
    (fun e s1 => wpAny (model X.prog X.w) X.A (noteFrame e X.env)
      (fun _ s2 => wpAny (model X.prog X.w) X.A (setFlight e none)
        (fun _ s3 => wpAny (model X.prog X.w) X.A (handleBy e X.env (h0 :: hds)) (SP X pins D) X.xe s3) X.xe s2) X.xe s1)
    (fun u s' air => ?c1) PassesOwn.looking).run [] s σ H D (I.toTry _) h) (fun f s1 hsp => ?c2) (fun _ _ z => z)
  case c1 =>
    obtain ⟨a, B, sI, pq, σ', H', cls, d, rfl, Jt, nb, up, sky, na, os, ag, w⟩ := air
    have J : Inv X pins σ' H' sI := Jt.ofTry okX
    have sk : Sky B (X.env :: X.outer) a (Zc cls d) X.env.locals s'.heap := by
      rw [← hs]
      exact sky
    show wpAny (model X.prog X.w) X.A (noteFrame (.ref a) X.env) _ _ _
    refine Sky.land Zc.steady fr hf sk fun hA flA upA => ?_
    have JA : Inv X pins σ' H' { s' with heap := hA } := J.landed nb flA.1 (up.trans upA) os ag
    obtain ⟨oA, vA, atA, zA, dA⟩ := flA.there
    have far : a ∉ frs (X.env :: X.outer) := fun hm => by
      obtain ⟨_, o', e', hnf⟩ := flA.2.2.1.mem hm
      rw [atA] at e'
      cases e'
      exact hnf _ dA
    have nL : a ≠ X.env.locals := fun z => far (List.mem_filterMap.mpr ⟨X.env, List.mem_cons_self, by rw [hf, z]⟩)
    have nF : a ∉ X.fs := fun hm => by
      obtain ⟨e, he, q⟩ := List.mem_filterMap.mp hm
      exact far (List.mem_filterMap.mpr ⟨e, List.mem_cons_of_mem _ he, q⟩)
    have SA := JA.suite atA dA na nL nF
    -- the test of a clause
    have test : ∀ {x : Str} {c : Value} {np : Pos} {Q E : Value → Shared → Prop}, Names X x c → Q c { s' with heap := hA } →
        wpAny (model X.prog X.w) (X.A.mark (some (.ref a))) (eval (.Name x np) X.env) Q E { s' with heap := hA } := fun hc q => by
      obtain ⟨hg, hdbg, hm | ⟨hm, hv, hnn⟩⟩ := hc
      · exact ld_glob (X := X.suite a ((a, oA) :: (X.pn ++ pins))) SA hg hm q hdbg
      · exact ld_blt (X := X.suite a ((a, oA) :: (X.pn ++ pins))) SA hg hm hv q hnn hdbg
    have look : PySem.W.Looks (model X.prog X.w) hA (typeOf (.ref a)) cls := fun A Q E s k q =>
      wpAny_typeOf_ref (k _ _ atA) (by rw [zA.1]; exact q)
    have go : ∀ {hs' : List ExceptHandler} {l' : List Cls1}, ClsOk X hs' l' → wCls X.K Wo D l' cls d σ' H' →
        wpAny (model X.prog X.w) X.A (handleBy (.ref a) X.env hs') (SP X pins D) X.xe { s' with heap := hA } := by
      intro hs' l' hk
      induction hk with
      | nil =>
        intro w
        refine wpAny_handleBy_nil ?_
        obtain ⟨_, _, _, oe, vs, T, oT, ts', he, hz, hd, h1, hr⟩ := id flA
        unfold PySem.passOn
        refine wpAny_bind (wpAny_field he hd h1 ?_)
        rw [if_neg (show ¬ ((Value.ref T == Value.none) = true) by simp)]
        have fin : wpAny (model X.prog X.w) X.A (setFlight (.ref a) X.env.frame)
            (fun _ s4 => wpAny (model X.prog X.w) X.A (throw (.ref a) : Sem Flow) (SP X pins D) X.xe s4) X.xe { s' with heap := hA } := by
          rw [hf]
          exact HandSPX.setFlight_upZ flA fun h4 hh4 up4 => wpAny_throw (tk _ _
            ⟨a, B, sI, pins, σ', H', cls, d, rfl, J, nb, (up.trans upA).trans up4, .inr (.inr (by rw [hs]; exact hh4)), na, os, ag, w⟩)
        first
          | exact wpAny_bind (wpAny_pure (wpAny_bind fin))
          | exact wpAny_bind fin
      | @bare x c ts b0 su p1 p2 hs2 l2 hc hsu r ih =>
        intro w
        obtain ⟨b, m, yes, no⟩ := w
        refine wpAny_handleBy_cons (codeAny_handlers_test ?_) (by intro q; cases q)
        have LM := PySem.W.exm_one (M := model X.prog X.w) JA.kIn look m
        refine test hc (LM.here ?_)
        cases b with
        | false => exact ih (no rfl)
        | true =>
          refine codeAny_handlers_suite (HandSPX.lands_againZ flA fun hB flB upB => ?_)
          have JB : Inv X pins σ' H' { s' with heap := hB } := J.landed nb flB.1 ((up.trans upA).trans upB) os ag
          obtain ⟨oB, vB, atB, zB, dB⟩ := flB.there
          have SB := JB.suite atB dB na nL nF
          refine wpAny_mono ((hsu a oB cls d (X.pn ++ pins) zB ⟨_, dB⟩).run [] _ _ H' _ SB (yes rfl a na)) (fun f s6 hsp => ?_) (fun _ _ z => z.elim)
          cases f with
          | ret u =>
            obtain ⟨v6, σ6, H6, S6, r6, q6⟩ := hsp
            exact ⟨_, _, _, S6.unsuite okX, r6, q6⟩
          | next =>
            obtain ⟨σ6, H6, S6, q6⟩ := hsp
            exact ⟨_, _, S6.unsuite okX, q6⟩
          | brk =>
            obtain ⟨σ6, H6, S6, q6⟩ := hsp
            exact ⟨_, _, S6.unsuite okX, q6⟩
          | cont =>
            obtain ⟨σ6, H6, S6, q6⟩ := hsp
            exact ⟨_, _, S6.unsuite okX, q6⟩
      | @named x n i c ts b0 su p1 p2 hs2 l2 hc hi hl hsu r ih =>
        intro w
        obtain ⟨b, m, yes, no⟩ := w
        refine wpAny_handleBy_cons (codeAny_handlers_test ?_) (by intro q; cases q)
        have LM := PySem.W.exm_one (M := model X.prog X.w) JA.kIn look m
        refine test hc (LM.here ?_)
        cases b with
        | false => exact ih (no rfl)
        | true =>
          refine codeAny_handlers_suite_as (HandSPX.lands_againZ flA fun hB flB upB => ?_)
          have JB : Inv X pins σ' H' { s' with heap := hB } := J.landed nb flB.1 ((up.trans upA).trans upB) os ag
          obtain ⟨oB, vB, atB, zB, dB⟩ := flB.there
          have SB := JB.suite atB dB na nL nF
          refine store_ok (X := X.suite a ((a, oB) :: (X.pn ++ pins))) (v := .ref a) SB hN hi (.inl hl) rfl (fun s5 S5 => ?_) (.inr hl)
          refine wpAny_mono ((hsu a oB cls d (X.pn ++ pins) zB ⟨_, dB⟩).run [] s5 _ H' _ S5 (yes rfl a na)) (fun f s6 hsp => ?_) (fun _ _ z => z.elim)
          have off : ∀ {σ6 : St} {H6 : Hp} {Q : Shared → Prop}, Inv (X.suite a ((a, oB) :: (X.pn ++ pins))) [] σ6 H6 s6 →
              (∀ s7, Inv X pins (σ6.set i none) H6 s7 → Q s7) →
              wpAny (model X.prog X.w) X.A (do bindName X.env n .none; unbindBehindTheSuite X.env n p2) (fun _ s7 => Q s7) X.xe s6 :=
            fun S6 hq => gone_ok (S6.unsuite okX) hN hi hl hq
          cases f with
          | ret u =>
            obtain ⟨v6, σ6, H6, S6, r6, q6⟩ := hsp
            exact off S6 fun s7 J7 => ⟨_, _, _, J7, r6, q6⟩
          | next =>
            obtain ⟨σ6, H6, S6, q6⟩ := hsp
            exact off S6 fun s7 J7 => ⟨_, _, J7, q6⟩
          | brk =>
            obtain ⟨σ6, H6, S6, q6⟩ := hsp
            exact off S6 fun s7 J7 => ⟨_, _, J7, q6⟩
          | cont =>
            obtain ⟨σ6, H6, S6, q6⟩ := hsp
            exact off S6 fun s7 J7 => ⟨_, _, J7, q6⟩
    exact go hh w
  case c2 =>
    cases f with
    | ret u =>
      obtain ⟨v, σ', H', J', r, q⟩ := hsp
      exact ⟨v, σ', H', J'.ofTry okX, r, q⟩
    | next =>
      obtain ⟨σ', H', J', q⟩ := hsp
      exact wpAny_execs_nil ⟨σ', H', J'.ofTry okX, q⟩
    | brk =>
      obtain ⟨σ', H', J', q⟩ := hsp
      exact ⟨σ', H', J'.ofTry okX, q⟩
    | cont =>
      obtain ⟨σ', H', J', q⟩ := hsp
      exact ⟨σ', H', J'.ofTry okX, q⟩
end
/-! ### two tuples of the very same values -/
section
variable {X : Cx}
/-- a value of which == with itself is known: by value, or by the object -/
def selfEq : V → Bool
  | .ref _ => true
  | v => flatB v
theorem selfEq_at {A : Around} {s : Shared} {v : V} {u u' : Value} (r : RelV v u) (r' : RelV v u') (f : selfEq v = true) : SeqAt.EqAt A s u u' true := by
  cases v with
  | ref a =>
    cases (show u = Value.ref a from r)
    cases (show u' = Value.ref a from r')
    exact SeqAt.EqAt.same _
  | _ => exact eqAt_same r r' f
theorem selfEq_all {A : Around} {s : Shared} : ∀ {xs : List V} {us ws : List Value}, Vals xs us → Vals xs ws → xs.all selfEq = true →
    ∀ j (h1 : j < us.length) (h2 : j < ws.length), SeqAt.EqAt A s us[j] ws[j] true
  | _, _, _, .nil, .nil, _, j, h1, _ => absurd h1 (Nat.not_lt_zero j)
  | _, _, _, .cons a1 b1, .cons a2 b2, f, j, h1, h2 => by
    rw [List.all_cons, Bool.and_eq_true] at f
    cases j with
    | zero => exact selfEq_at a1 a2 f.1
    | succ j => exact selfEq_all b1 b2 f.2 j (Nat.lt_of_succ_lt_succ h1) (Nat.lt_of_succ_lt_succ h2)
def rTupS (K : PySem.W.Frag) (b : Bool) : R2 := fun x y H Q => ∃ p q xs, x = .ref p ∧ y = .ref q ∧ SqT K H p xs ∧ SqT K H q xs ∧ xs.all selfEq = true ∧ Q (.bl b) H
theorem op_neTupS (hu : X.A.units < cLine) : OpR X (compareOp .NotEq) (rTupS X.K false) := by
  intro pins s σ H x y v u Q I rx ry h
  obtain ⟨p, q, xs, rfl, rfl, h1, h2, f, z⟩ := h
  cases (show v = Value.ref p from rx)
  cases (show u = Value.ref q from ry)
  obtain ⟨us, r1, p1, _⟩ := I.tuple h1
  obtain ⟨ws, r2, p2, _⟩ := I.tuple h2
  have e := SeqAt.RcNeAt.tuples (A := X.A) (s := s) (e := fun _ => true) p1 p2 hu fun j a b => by
    have k := selfEq_all (A := X.A.in1) (s := s) r1 r2 f j (by simpa using a) (by simpa using b)
    simpa using k
  refine e X.prog X.w _ _ ?_
  have l : us.length = ws.length := r1.length.symm.trans r2.length
  have z' : (!((List.range (min us.toArray.size ws.toArray.size)).all (fun _ => true) && us.toArray.size == ws.toArray.size)) = false := by
    rw [show ((List.range (min us.toArray.size ws.toArray.size)).all fun _ => true) = true from List.all_eq_true.mpr fun _ _ => rfl]
    simp [l]
  rw [z']
  exact ⟨.bl false, H, I, rfl, z⟩
theorem op_eqTupS (hu : X.A.units < cLine) : OpR X (compareOp .Eq) (rTupS X.K true) := by
  intro pins s σ H x y v u Q I rx ry h
  obtain ⟨p, q, xs, rfl, rfl, h1, h2, f, z⟩ := h
  cases (show v = Value.ref p from rx)
  cases (show u = Value.ref q from ry)
  obtain ⟨us, r1, p1, _⟩ := I.tuple h1
  obtain ⟨ws, r2, p2, _⟩ := I.tuple h2
  have e := SeqAt.RcAt.tuples (A := X.A) (s := s) (e := fun _ => true) p1 p2 hu fun j a b => by
    have k := selfEq_all (A := X.A.in1) (s := s) r1 r2 f j (by simpa using a) (by simpa using b)
    simpa using k
  refine e X.prog X.w _ _ ?_
  have l : us.length = ws.length := r1.length.symm.trans r2.length
  have z' : ((List.range (min us.toArray.size ws.toArray.size)).all (fun _ => true) && us.toArray.size == ws.toArray.size) = true := by
    rw [show ((List.range (min us.toArray.size ws.toArray.size)).all fun _ => true) = true from List.all_eq_true.mpr fun _ _ => rfl]
    simp [l]
  rw [z']
  exact ⟨.bl true, H, I, rfl, z⟩
end
/-! ### a def whose code object is told (it makes lambdas) -/
structure FunC (K : PySem.W.Frag) (x qual : Str) (st : Stmt) (f : Addr) (fd : FuncData) (co : Addr) : Prop where
  ex : ∃ (oc : Value) (od : Option Addr) (kV doc pm : Value) (an : Option Addr) (ct : Value) (osl : Array (Option Value)),
    fd = PySem.W.fnOf x qual (defArgs st) (defBody st) (defScope st) .none kV doc pm an (.ref co) ct ∧
      K.lookup f = some ⟨oc, od, .func fd, osl⟩ ∧ PySem.W.codeIn K (.ref co) qual = true
theorem FunC.ok {P : Program} {w : World} {K : PySem.W.Frag} {mg : Str → Option Value} {base : Heap} {x qual : Str} {st : Stmt} {f co : Addr} {fd : FuncData} {N ps : List Str} {k : Nat} {sp : Sp}
    (F : FunC K x qual st f fd co) (S : FnScope N ps (defScope st)) (len : ∀ vs H Q E, sp vs H Q E → vs.length = ps.length)
    (hbody : ∀ (A : Around) (outer : List Env) (s : Shared) (H : Hp) (vs : List V) (Q : VK) (E : XK),
      Room k (A.deeper (envOfC qual (defScope st) s.heap.objs.size f (.ref co))) → sp vs H Q E →
      ∃ t, PSs (cxOf CX0 P w K mg base N qual (defScope st) f (.ref co) A outer s H E).nox (defBody st) t ∧
        t { nx := fun _ H' => Q .non H', rt := Q } (L2.start N vs) H) : FnOk P w K mg base CX0 (k + 1) f fd ps sp := by
  obtain ⟨oc, od, kV, doc, pm, an, ct, osl, rfl, lk, hcd⟩ := F.ex
  refine fn_of lk hcd S len fun A outer s H vs Q E hr hsp => ?_
  obtain ⟨t, h, q⟩ := hbody A outer s H vs Q E hr hsp
  exact ⟨t, h.nox, q⟩
/-! ### tables of code objects, kept -/
open LamX in
theorem Tabs.keep {T : List (Addr × Str)} {H H' : Hp} (t : Tabs T H) (h : ∀ b o, H b = some o → (∀ u, o = .ext u → H' b = some o) ∧ (∀ ps, o = .tbl ps → H' b = some o)) : Tabs T H' := fun p hp => by
  obtain ⟨ps, h1, h2, h3⟩ := t p hp
  refine ⟨ps, (h _ _ h1).2 _ rfl, h2, fun pos cv hc => ?_⟩
  obtain ⟨c, e1, e2⟩ := h3 pos cv hc
  exact ⟨c, e1, (h _ _ e2).1 _ rfl⟩
end L2

set_option Elab.async false
set_option linter.all false
set_option maxRecDepth 100000
set_option maxHeartbeats 4000000
/-! own rules: exceptions as values -/
namespace L2
open PySem PySem.Spec PyProof.Rows
/-- at e: an exception of the class at C (no __init__ of its own), its arguments in the tuple at t -/
def exS (e C t : Addr) : HO := .ext fun h => h.get? e = some ({ cls := .ref C, dict := none, data := .fields #[.ref t, .none, .none, .none, .bool false, .none] } : Obj)
theorem exS_ok {P : Program} {w : World} {H : Hp} {h : Heap} {e C t : Addr} (he : h.get? e = some ({ cls := .ref C, dict := none, data := .fields #[.ref t, .none, .none, .none, .bool false, .none] } : Obj)) : ObjOk P w H h e (exS e C t) :=
  ⟨he, ⟨_, he⟩, fun h1 h2 z k => k _ z⟩
theorem exS_at {P : Program} {w : World} {H : Hp} {h : Heap} {e C t : Addr} (hok : HOk P w H h) (he : H e = some (exS e C t)) : h.get? e = some ({ cls := .ref C, dict := none, data := .fields #[.ref t, .none, .none, .none, .bool false, .none] } : Obj) := by
  have z : ObjOk P w H h e (.ext fun h => h.get? e = some ({ cls := .ref C, dict := none, data := .fields #[.ref t, .none, .none, .none, .bool false, .none] } : Obj)) := hok e _ he
  exact z.1
/-- an exception that stands at a, of the class at C -/
def EAt (H : Hp) (a C : Addr) : Prop := ∃ d fs, H a = some (exo a C (some d)) ∧ H d = some (exd d fs)
section
variable {X : Cx} {e : Expr} {es : List Expr} {ta : TA} {p pos : Pos}
def tMkX (C : Addr) (sp : Sp) (ta : TA) : TE := fun σ H Q => ta σ H fun vs H1 => vs.length ≤ 1000 ∧ ∀ a, H1 a = none → sp (.ref a :: vs) (upd H1 a (exo a C none)) (fun v H2 => v = .non ∧ Q (.ref a) H2) (fun _ _ _ => False)
/-- C(e, ..) as a value, C's own __init__ keeping sp -/
theorem pe_oex {CX : CXT} {x : Str} {C fI : Addr} {k : Nat} {fd : FuncData} {ps : List Str} {sp : Sp} (T : OexC X.K C) (iC : PySem.W.findIn X.K (.ref C) "__init__" = some (some (.ref fI))) (tI : PySem.W.typeIn X.K (.ref fI) = some (.type "function"))
    (fn : FnOk X.prog X.w X.K X.mg X.base CX k fI fd ps sp) (room : Room (k + 1) X.A) (bi : Binds X.K fd ps []) (pass : Passes CX X (fun _ _ _ => False)) (gl : Gl X x) (at_ : X.mg x = some (.ref C)) (args : PA X (e :: es) ta)
    (dbg : (x == ("__debug__" : Str)) = false := by decide) (st1 : starEach (e :: es) X.env = (false, eval e X.env) :: starEach es X.env := by rfl) (st2 : (backTo pos (starEach es X.env)).any (·.1) = false := by rfl) :
    PE X (.Call (.Name x p) (e :: es) [] pos) (tMkX C sp ta) := by
  constructor
  intro pins s0 σ H0 Q I0 wish
  rcases T.cls with ⟨nam, qn, Nn, bases, rest, sn, sub, ab, col, dd, w0, w1, w2, w3, w5, clsAt, refs⟩
  refine wpAny_Call_Name_kw (ld_glob I0 gl at_ (PySem.W.callWith_K (h₀ := X.base) I0.ok.mod.kin T.kC (thn (args.run pos pins s0 σ H0 _ I0 wish) ?_) st1 st2) dbg)
  rintro us ⟨hp, gens, drawn, toks, os⟩ ⟨vs, H1, J, rel, few, made⟩
  refine ⟨J.kIn, ?_⟩
  -- the new exception stands behind its tuple
  obtain ⟨a, ea⟩ : ∃ a, a = hp.objs.size + 1 := ⟨_, rfl⟩
  obtain ⟨h2, eh⟩ : ∃ h2, h2 = (hp.push (PySem.W.kdv_tup us)).push (PySem.HandSPX.excO C hp.objs.size) := ⟨_, rfl⟩
  have new : hp.objs.size ≤ a := by omega
  have free : H1 a = none := J.hok.fresh new
  have stays : ∀ b o, hp.get? b = some o → h2.get? b = some o := fun b o z => by
    rw [eh]
    exact Heap.get?_push_of_some _ (Heap.get?_push_of_some _ z)
  have there : h2.get? a = some (PySem.HandSPX.excO C hp.objs.size) := by
    rw [eh, ea]
    heap_get
  have J2 : Inv X pins σ (upd H1 a (exo a C none)) ⟨h2, gens, drawn, toks, os⟩ := J.laid (t' := toks) stays new (exo_ok there)
  have wish2 := made a free
  have rel2 : Vals (V.ref a :: vs) (Value.ref a :: us) := .cons rfl rel
  have lens : (Value.ref a :: us).length = ps.length := rel2.length.symm.trans (fn.len _ _ _ _ wish2)
  have short : us.length ≤ sizeLine := by
    have z : us.length = vs.length := rel.length.symm
    rw [z, sizeLine_eq]
    omega
  have bind := bi _ (Value.ref a :: us) J2.kIn (by simpa using lens)
  simp only [List.append_nil] at bind
  have body := fn.run _ X.stack _ _ ⟨Value.ref a :: us, []⟩ (Value.ref a :: us) _ _ (fun _ _ _ => False) (room.make C us []) (J2.env0.make C us []) bind rel2 wish2
  subst eh ea
  have mro := fun Y => PySem.HandSPX.refsVE_contains Y rest refs
  refine wpAny_call (PySem.HandSPX.call_own F.excBase_ValueError mro (J.kIn _ _ clsAt) (PySem.W.looks_findIn J.kIn iC) (fun self => PySem.W.bind_fn J.kIn self tI) short (codeAny_mono body ?_))
  rintro (er | fl) s' z
  · exact pass pins σ _ _ er s' J2 z
  · cases fl <;> first | exact False.elim z | skip
    obtain ⟨v, H3, J3, r3, ev, q3⟩ := J2.after z
    subst ev
    exact ⟨r3, V.ref _, H3, J3, rfl, q3⟩
/-- e.f of such an exception -/
def tExF (K : PySem.W.Frag) (f : Str) (te : TE) : TE := fun σ H Q => te σ H fun x H1 => ∃ (a C d : Addr) (fs : List (Str × V)) (v : V), x = .ref a ∧ XfC K C ∧ PySem.W.findIn K (.ref C) f = some none ∧ H1 a = some (exo a C (some d)) ∧ H1 d = some (exd d fs) ∧ fs.lookup f = some v ∧ Q v H1
theorem pe_exf {te : TE} {n : Str} (he : PE X e te) (hb : attributeBase e n X.env (eval e X.env) = eval e X.env := by rfl) : PE X (.Attribute e n pos) (tExF X.K n te) := by
  refine ⟨fun pins s σ H Q I h => ?_⟩
  refine attr_of hb (thn (he.run pins s σ H _ I h) fun u s1 hh => ?_)
  obtain ⟨x, H1, I1, rx, a, C, d, fs, v, ex, T, hno, ea, ed, l, q⟩ := hh
  subst ex
  obtain rfl : u = Value.ref a := rx
  obtain ⟨t1, ho⟩ := exo_at I1.hok ea
  obtain ⟨mA, hns, hr⟩ := exd_at I1.hok ed
  obtain ⟨od, hod, hl⟩ := lookIn_ns hns
  obtain ⟨w, hw, rw'⟩ := RelO.some_of (v := v) (o := mA n) (by rw [← l]; exact hr n)
  have J : PySem.W.InstAt s1.heap a { cls := .ref C, dict := some d, data := .fields #[.ref t1, .none, .none, .none, .bool false, .none] } C (some od) := ⟨ho, rfl, rfl, hod⟩
  exact HandSPX.exc_get I1.kIn J T.ga T.gg T.exC (PySem.W.findObj_own T.hdC hno rfl (by rw [hl, hw])) (handed_of rw') ⟨v, H1, I1.tok _, rw', q⟩
/-- isinstance(e, c) -/
def rIsX (K : PySem.W.Frag) : List V → Hp → VK → Prop := fun xs H Q => ∃ (a C : Addr) (c : V) (cv : Value) (b : Bool), xs = [.ref a, c] ∧ ClsV c cv ∧ ((∃ d fs, H a = some (exo a C (some d)) ∧ H d = some (exd d fs)) ∨ ∃ t, H a = some (exS a C t)) ∧
  L2.ExcC K C ∧ PySem.W.kitOne K (.ref C) cv = some b ∧ Q (.bl b) H
theorem call_isX : CallR X (.builtin "isinstance") (rIsX X.K) := by
  intro pins s σ H xs us Q I r h
  obtain ⟨a, C, c, cv, b, rfl, k, at', T, e, q⟩ := h
  obtain ⟨u1, u2, rfl, r1, r2⟩ := vals2 r
  obtain rfl := k.eq r2
  cases (show u1 = Value.ref a from r1)
  have hcl : (PySem.W.clsIn X.K C).isSome = true := by
    obtain ⟨cd, hc, _⟩ := PySem.W.any_some T.hd
    rw [hc]; rfl
  rcases at' with ⟨d, fs, ea, ed⟩ | ⟨t, ea⟩
  · obtain ⟨t1, ho⟩ := exo_at I.hok ea
    obtain ⟨mA, hns, hr⟩ := exd_at I.hok ed
    obtain ⟨od, hod, hl⟩ := lookIn_ns hns
    have J : PySem.W.InstAt s.heap a { cls := .ref C, dict := some d, data := .fields #[.ref t1, .none, .none, .none, .bool false, .none] } C (some od) := ⟨ho, rfl, rfl, hod⟩
    exact PySem.W.kia_one (PySem.W.kitx_exc hcl T.hg T.hk T.hs T.ha T.hn T.ht T.hm) I.kIn J e (fun z => nomatch z) fun tk => ⟨.bl b, H, I.tok tk, rfl, q⟩
  · have ho := exS_at I.hok ea
    have J : PySem.W.InstAt s.heap a { cls := .ref C, dict := none, data := .fields #[.ref t, .none, .none, .none, .bool false, .none] } C none := ⟨ho, rfl, rfl, trivial⟩
    exact PySem.W.kia_one (PySem.W.kitx_exc hcl T.hg T.hk T.hs T.ha T.hn T.ht T.hm) I.kIn J e (fun z => nomatch z) fun tk => ⟨.bl b, H, I.tok tk, rfl, q⟩
/-- C(text) as a value, C without an __init__ of its own -/
def tMkS (C : Addr) (te : TE) : TE := fun σ H Q => te σ H fun v H1 => ∃ x, v = .str x ∧ ∀ a t, H1 a = none → H1 t = none → a ≠ t → Q (.ref a) (upd (upd H1 t (.tup [.str x])) a (exS a C t))
theorem Inv.laid2 {pins : List (Addr × Obj)} {σ : St} {H : Hp} {s : Shared} {h' : Heap} {a t : Addr} {o u : HO} {tk : Nat} (I : Inv X pins σ H s) (k : ∀ b u, s.heap.get? b = some u → h'.get? b = some u) (ha : s.heap.get? a = none) (ht : s.heap.get? t = none)
    (na : H a = none) (nt : H t = none) (ne : a ≠ t) (new : ObjOk X.prog X.w (upd (upd H t u) a o) h' a o) (newt : ObjOk X.prog X.w (upd (upd H t u) a o) h' t u) : Inv X pins σ (upd (upd H t u) a o) { s with heap := h', toks := tk } := by
  have fr : ∀ b v, s.heap.get? b = some v → b ≠ a ∧ b ≠ t := fun b v q => ⟨fun z => (by rw [z, ha] at q; cases q), fun z => (by rw [z, ht] at q; cases q)⟩
  have ky : ∀ b v, H b = some v → upd (upd H t u) a o b = some v := fun b v q => by rw [upd_ne (ne_of_none q na), upd_ne (ne_of_none q nt)]; exact q
  refine I.un (t' := tk) { keep := fun b u q _ _ _ => k b u q, slot := fun b u q _ _ _ => ⟨u.slots, k b u q⟩, free := fun b v q n _ => (by rw [upd_ne (fr b v q).1, upd_ne (fr b v q).2]; exact n), there := fun b u q _ => ⟨u, k b u q⟩, tups := fun b xs q => ky b _ q, frzs := fun b u xs q => ky b _ q, tbls := fun b ps q => ⟨#[], by rw [ky b _ q]; simp⟩ } fun b v q => ?_
  by_cases hb : b = a
  · subst hb
    rw [upd_same] at q
    cases q
    exact new
  · rw [upd_ne hb] at q
    by_cases hd : b = t
    · subst hd
      rw [upd_same] at q
      cases q
      exact newt
    · rw [upd_ne hd] at q
      exact (I.hok b v q).stay (fun c v _ z => k c v z) (fun c q => ky c _ q) fun c xs q => ky c _ q
theorem pe_exs {C : Addr} {bmB : List Value} {B newId initId : String} {x : Str} {te : TE} (F : ExcBaseFacts B newId initId bmB) (q : PySem.W.excIn X.K C bmB newId = true) (gC : X.mg x = some (.ref C)) (kC : PySem.W.keepIn X.K (.ref C) = true) (hg : Gl X x)
    (he : PE X e te) (hs : starEach [e] X.env = (false, eval e X.env) :: starEach [] X.env := by rfl) (hdb : (x == ("__debug__" : Str)) = false := by decide) :
    PE X (.Call (.Name x p) [e] [] pos) (tMkS C te) := by
  constructor
  intro pins s0 σ H0 Q I0 wish
  have arg : PA X [e] (tCons te tNil) := pa_cons he pa_nil hs
  refine wpAny_Call_Name_kw (ld_glob I0 hg gC (PySem.W.callWith_K (h₀ := X.base) I0.ok.mod.kin kC (thn (arg.run pos pins s0 σ H0 (fun vs H1 => match vs with | [v] => ∃ x, v = .str x ∧ ∀ a t, H1 a = none → H1 t = none → a ≠ t → Q (.ref a) (upd (upd H1 t (.tup [.str x])) a (exS a C t)) | _ => False) I0 wish) ?_) hs (by rfl)) hdb)
  rintro us s1 ⟨vs, H1, I1, rel, q0⟩
  obtain ⟨v, rfl, y, rfl, q1⟩ : ∃ v, vs = [v] ∧ ∃ x, v = .str x ∧ ∀ a t, H1 a = none → H1 t = none → a ≠ t → Q (.ref a) (upd (upd H1 t (.tup [.str x])) a (exS a C t)) := by
    match vs, q0 with
    | [v], q0 => exact ⟨v, rfl, q0⟩
  obtain ⟨u, rfl, ru⟩ := vals1 rel
  obtain ⟨tk, rfl⟩ := (show ∃ tk, u = Value.str y tk from ru)
  refine ⟨I1.kIn, ?_⟩
  obtain ⟨bm, N, nm, qn, bs, hdct, sn, sub, ab, col, dd, k0, k1, k2, k3, k5, mN, hC, hN, hni, T⟩ := exc_obj I1.kIn q
  refine wpAny_call_exc_subT F T hC hN hni (fun h' a hm => ?_) (by show 1 ≤ sizeLine; decide)
  have hn := I1.hok.gone hm.new
  obtain ⟨t, ht, htn, htt⟩ := hm.there
  have hnt : H1 t = none := I1.hok.gone htn
  have ne : a ≠ t := fun z => by
    rw [z, htt] at ht
    cases ht
  exact ⟨.ref a, _, I1.laid2 (tk := s1.toks) (u := .tup [.str y]) hm.keeps hm.new htn hn hnt ne (exS_ok ht) ⟨by show 1 ≤ sizeLine; rw [sizeLine_eq]; omega, [.str y tk], .cons ⟨_, rfl⟩ .nil, ⟨_, htt, rfl, _, rfl⟩⟩, rfl, q1 a t hn hnt ne⟩
/-- str(e) of such an exception -/
def rStrX (K : PySem.W.Frag) : List V → Hp → VK → Prop := fun xs H Q => ∃ (a C t : Addr) (x : Str), xs = [.ref a] ∧ H a = some (exS a C t) ∧ H t = some (.tup [.str x]) ∧ PySem.W.findIn K (.ref C) "__str__" = some (some (.builtin "BaseException.__str__")) ∧
  PySem.W.subIn K (.ref C) (.type "BaseException") = some true ∧ Q (.str x) H
theorem call_strX (hu : X.A.units + 2 < cLine) : CallR X (.type "str") (rStrX X.K) := by
  intro pins s σ H xs us Q I r h
  obtain ⟨a, C, t, x, rfl, ea, et, hs, hB, q⟩ := h
  obtain ⟨u1, rfl, r1⟩ := vals1 r
  cases (show u1 = Value.ref a from r1)
  have ho := exS_at I.hok ea
  obtain ⟨_, its, rv, o, h1, h2, n, h3⟩ := (show ObjOk X.prog X.w H s.heap t (.tup [.str x]) from I.hok t _ et)
  obtain ⟨w1, rfl, rw1⟩ := vals1 rv
  obtain ⟨tk, rfl⟩ := (show ∃ tk, w1 = Value.str x tk from rw1)
  exact PySem.P.str_of_C_one hu (K := X.K) (C := C) (t0 := t) ⟨I.kIn, _, _, ho, rfl, rfl, rfl⟩ ⟨o, n, h1, h2, h3⟩ hs hB ⟨.str x, H, I, ⟨tk, rfl⟩, q⟩
/-- != of a value with itself -/
theorem flat_self {xs : List V} (f : xs.all flatB = true) : xs.all selfEq = true := List.all_eq_true.mpr fun v hv => by
  have := List.all_eq_true.mp f v hv
  cases v <;> first | rfl | exact this
inductive Own (H : Hp) : V → Prop where
  | flat {v : V} (f : scal v v = true) : Own H v
  | lst {a : Addr} {xs : List V} (e : H a = some (.lst xs)) (f : xs.all flatB = true) : Own H (.ref a)
  | tup {a : Addr} {xs : List V} (e : H a = some (.tup xs)) (f : xs.all flatB = true) : Own H (.ref a)
  | dic {a : Addr} (e : H a = some (.dK [])) : Own H (.ref a)
def rNeS : R2 := fun x y H Q => x = y ∧ Own H x ∧ Q (.bl false) H
theorem op_neS (hu : X.A.units < cLine) : OpR X (compareOp .NotEq) rNeS := by
  intro pins s σ H x y v u Q I rx ry h
  obtain ⟨rfl, o, q⟩ := h
  cases o with
  | flat f => exact op_ne pins s σ H x x v u Q I rx ry ⟨f, by rw [decide_eq_true rfl]; exact q⟩
  | @lst p xs e f =>
    cases (show v = Value.ref p from rx)
    cases (show u = Value.ref p from ry)
    obtain ⟨us, r1, p1, _⟩ := I.list (SqL.of e)
    have e := SeqAt.RcNeAt.lists (A := X.A) (s := s) (e := fun _ => true) p1.isList p1.isList rfl hu fun j a b => by
      have k := selfEq_all (A := X.A.in1) (s := s) r1 r1 (flat_self f) j (by simpa using a) (by simpa using b)
      simpa using k
    refine e X.prog X.w _ _ ?_
    have z' : (!(List.range us.toArray.size).all (fun _ => true)) = false := by
      rw [show ((List.range us.toArray.size).all fun _ => true) = true from List.all_eq_true.mpr fun _ _ => rfl]
      rfl
    rw [z']
    exact ⟨.bl false, H, I, rfl, q⟩
  | @tup p xs e f =>
    exact op_neTupS hu pins s σ H (.ref p) (.ref p) v u Q I rx ry ⟨p, p, xs, rfl, rfl, SqT.of e, SqT.of e, flat_self f, q⟩
  | @dic p e =>
    exact op_ne_dictA hu pins s σ H (.ref p) (.ref p) v u Q I rx ry ⟨p, p, [], [], rfl, rfl, e, e, rfl, fun z hz => (nomatch hz), q⟩
end
end L2

set_option Elab.async false
set_option linter.all false
set_option maxRecDepth 100000
set_option maxHeartbeats 4000000
namespace My
open PySem L2
local macro_rules | `(tactic| walk_at "ds") => `(tactic| dsimp only [tSeq, tIfS, tTest, tB, tAnd, tOr, tNot, tAndV, tOrV, tNotV, tIf, tIsN, tNotN, tOp, tUn, tChain, rI, rI0, rU, tC, tCB, tCons, tNil, tAsg, gName, gSub, tRet, tRetN, tNext, tDrop, tLst, tTup, rIxL, rIxT, rSetL, tVar, tFld, tCall, tDGet, tDIn, tDNotIn, tNever, L2.start, List.map, List.replicate, List.length, List.append, List.cons_append, List.nil_append, List.set, Nat.sub])
local macro_rules | `(tactic| walk_at "hp") => `(tactic| first | assumption | exact upd_same | (refine Eq.trans (upd_ne (by first | assumption | (apply Ne.symm; assumption))) ?_; walk_at "hp"))
local macro_rules | `(tactic| walk_at "sd") => `(tactic| first
  | (show (_ : Int) ≠ 0; omega)
  | (refine (show CDivN _ _ from ⟨?_, ?_⟩) <;> omega)
  | (show CPow _ _; refine ⟨by omega, by omega, by omega⟩)
  | (show CMul _ _; exact Or.inl ⟨by omega, by omega⟩)
  | (show CMul _ _; exact Or.inr ⟨by omega, by omega⟩))
local macro_rules | `(tactic| walk_at "st") => `(tactic| first
  | refine ⟨_, rfl, ?_⟩
  | refine ⟨_, _, rfl, rfl, (by walk_at "sd"), ?_⟩
  | refine ⟨_, _, rfl, rfl, ?_⟩
  | refine ⟨_, _, _, _, rfl, rfl, SqL.of (by walk_at "hp"), rfl, ?_⟩
  | refine ⟨_, _, _, _, rfl, rfl, (by walk_at "hp"), rfl, ?_⟩
  | refine .inl ⟨_, rfl, ?_⟩
  | refine ⟨_, _, _, _, _, rfl, (by walk_at "hp"), (by assumption), (by assumption), rfl, ?_⟩
  | refine ⟨_, _, rfl, .inl (SqL.of (by walk_at "hp")), ?_⟩)
local macro_rules | `(tactic| walk_at "go") => `(tactic| repeat (first | walk_at "st" | (walk_at "ds"; walk_at "st")))

def top (i : Nat) : Stmt := PySem.Challenge.pw_pageclass_k07_errors_by_hand.main.body.getD i (.Pass ⟨0, 0, 0, 0⟩)
abbrev s_NoSystem_init : Stmt := inClass (top 2) 0
abbrev n_NoSystem_init : List Str := ["self", "part"]
abbrev p_NoSystem_init : List Str := ["self", "part"]
theorem sc_NoSystem_init : FnScope n_NoSystem_init p_NoSystem_init (defScope s_NoSystem_init) := ⟨rfl, rfl, rfl, by decide +kernel, rfl, by decide +kernel, by decide +kernel⟩
abbrev s_NoProcess_init : Stmt := inClass (top 3) 0
abbrev n_NoProcess_init : List Str := ["self", "process"]
abbrev p_NoProcess_init : List Str := ["self", "process"]
theorem sc_NoProcess_init : FnScope n_NoProcess_init p_NoProcess_init (defScope s_NoProcess_init) := ⟨rfl, rfl, rfl, by decide +kernel, rfl, by decide +kernel, by decide +kernel⟩
abbrev s_NoPages_init : Stmt := inClass (top 4) 0
abbrev n_NoPages_init : List Str := ["self", "part"]
abbrev p_NoPages_init : List Str := ["self", "part"]
theorem sc_NoPages_init : FnScope n_NoPages_init p_NoPages_init (defScope s_NoPages_init) := ⟨rfl, rfl, rfl, by decide +kernel, rfl, by decide +kernel, by decide +kernel⟩
abbrev s_NotMapped_init : Stmt := inClass (top 5) 0
abbrev n_NotMapped_init : List Str := ["self", "page"]
abbrev p_NotMapped_init : List Str := ["self", "page"]
theorem sc_NotMapped_init : FnScope n_NotMapped_init p_NotMapped_init (defScope s_NotMapped_init) := ⟨rfl, rfl, rfl, by decide +kernel, rfl, by decide +kernel, by decide +kernel⟩
abbrev s_NoRight_init : Stmt := inClass (top 6) 0
abbrev n_NoRight_init : List Str := ["self", "page"]
abbrev p_NoRight_init : List Str := ["self", "page"]
theorem sc_NoRight_init : FnScope n_NoRight_init p_NoRight_init (defScope s_NoRight_init) := ⟨rfl, rfl, rfl, by decide +kernel, rfl, by decide +kernel, by decide +kernel⟩
abbrev s_PastEnd_init : Stmt := inClass (top 7) 0
abbrev n_PastEnd_init : List Str := ["self", "page"]
abbrev p_PastEnd_init : List Str := ["self", "page"]
theorem sc_PastEnd_init : FnScope n_PastEnd_init p_PastEnd_init (defScope s_PastEnd_init) := ⟨rfl, rfl, rfl, by decide +kernel, rfl, by decide +kernel, by decide +kernel⟩
abbrev s_NoFile_init : Stmt := inClass (top 8) 0
abbrev n_NoFile_init : List Str := ["self", "name"]
abbrev p_NoFile_init : List Str := ["self", "name"]
theorem sc_NoFile_init : FnScope n_NoFile_init p_NoFile_init (defScope s_NoFile_init) := ⟨rfl, rfl, rfl, by decide +kernel, rfl, by decide +kernel, by decide +kernel⟩
abbrev s_Taken_init : Stmt := inClass (top 9) 0
abbrev n_Taken_init : List Str := ["self", "name"]
abbrev p_Taken_init : List Str := ["self", "name"]
theorem sc_Taken_init : FnScope n_Taken_init p_Taken_init (defScope s_Taken_init) := ⟨rfl, rfl, rfl, by decide +kernel, rfl, by decide +kernel, by decide +kernel⟩
abbrev s_NoLock_init : Stmt := inClass (top 10) 0
abbrev n_NoLock_init : List Str := ["self", "page"]
abbrev p_NoLock_init : List Str := ["self", "page"]
theorem sc_NoLock_init : FnScope n_NoLock_init p_NoLock_init (defScope s_NoLock_init) := ⟨rfl, rfl, rfl, by decide +kernel, rfl, by decide +kernel, by decide +kernel⟩
abbrev s_NoStep_init : Stmt := inClass (top 14) 0
abbrev n_NoStep_init : List Str := ["self", "at"]
abbrev p_NoStep_init : List Str := ["self", "at"]
theorem sc_NoStep_init : FnScope n_NoStep_init p_NoStep_init (defScope s_NoStep_init) := ⟨rfl, rfl, rfl, by decide +kernel, rfl, by decide +kernel, by decide +kernel⟩
abbrev s__law_well : Stmt := top 17
abbrev n__law_well : List Str := ["cell"]
abbrev p__law_well : List Str := ["cell"]
theorem sc__law_well : FnScope n__law_well p__law_well (defScope s__law_well) := ⟨rfl, rfl, rfl, by decide +kernel, rfl, by decide +kernel, by decide +kernel⟩
abbrev s__law_draw : Stmt := top 18
abbrev n__law_draw : List Str := ["well", "many", "digit", "prime", "number"]
abbrev p__law_draw : List Str := ["well", "many"]
theorem sc__law_draw : FnScope n__law_draw p__law_draw (defScope s__law_draw) := ⟨rfl, rfl, rfl, by decide +kernel, rfl, by decide +kernel, by decide +kernel⟩
abbrev s__law_one : Stmt := top 19
abbrev n__law_one : List Str := ["well", "some"]
abbrev p__law_one : List Str := ["well", "some"]
theorem sc__law_one : FnScope n__law_one p__law_one (defScope s__law_one) := ⟨rfl, rfl, rfl, by decide +kernel, rfl, by decide +kernel, by decide +kernel⟩
abbrev s__law_errors : Stmt := top 20
abbrev n__law_errors : List Str := ["thing", "one", "two", "three", "four", "five", "first", "six", "seven", "eight", "nine", "ten"]
abbrev p__law_errors : List Str := ["thing"]
theorem sc__law_errors : FnScope n__law_errors p__law_errors (defScope s__law_errors) := ⟨rfl, rfl, rfl, by decide +kernel, rfl, by decide +kernel, by decide +kernel⟩
abbrev s__law_kinds : Stmt := top 21
abbrev n__law_kinds : List Str := ["error", "first", "second", "third", "fourth"]
abbrev p__law_kinds : List Str := ["error"]
theorem sc__law_kinds : FnScope n__law_kinds p__law_kinds (defScope s__law_kinds) := ⟨rfl, rfl, rfl, by decide +kernel, rfl, by decide +kernel, by decide +kernel⟩
abbrev s_law : Stmt := top 22
abbrev n_law : List Str := ["script", "cell", "well", "thing", "rows", "text", "error", "k", "row", "kept", "spot"]
abbrev p_law : List Str := ["script"]
theorem sc_law : FnScope n_law p_law (defScope s_law) := ⟨rfl, rfl, rfl, by decide +kernel, rfl, by decide +kernel, by decide +kernel⟩

/-- isinstance between the classes of a list: each of itself alone -/
def kitAll (K : PySem.W.Frag) (cs : List Addr) : Bool := (List.range cs.length).all fun i => (List.range cs.length).all fun j => PySem.W.kitOne K (.ref (cs.getD i 0)) (.ref (cs.getD j 0)) == some (i == j)
def kitUp (K : PySem.W.Frag) (cs : List Addr) (u : Value) : Bool := cs.all fun c => PySem.W.kitOne K (.ref c) u == some true
theorem kitAll_at {K : PySem.W.Frag} {cs : List Addr} (h : kitAll K cs = true) {i j : Nat} {C D : Addr} (hi : cs[i]? = some C) (hj : cs[j]? = some D) : PySem.W.kitOne K (.ref C) (.ref D) = some (i == j) := by
  obtain ⟨li, ei⟩ := List.getElem?_eq_some_iff.mp hi
  obtain ⟨lj, ej⟩ := List.getElem?_eq_some_iff.mp hj
  have h1 := List.all_eq_true.mp h i (List.mem_range.mpr li)
  have h2 := List.all_eq_true.mp h1 j (List.mem_range.mpr lj)
  have e1 : cs.getD i 0 = C := by rw [List.getD_eq_getElem?_getD, hi]; rfl
  have e2 : cs.getD j 0 = D := by rw [List.getD_eq_getElem?_getD, hj]; rfl
  rw [e1, e2] at h2
  exact beq_iff_eq.mp h2
theorem kitUp_at {K : PySem.W.Frag} {cs : List Addr} {u : Value} (h : kitUp K cs u = true) {i : Nat} {C : Addr} (hi : cs[i]? = some C) : PySem.W.kitOne K (.ref C) u = some true :=
  beq_iff_eq.mp (List.all_eq_true.mp h C (List.mem_of_getElem? hi))
/-- where the top stands -/
structure Adr where
  a__law_well : Addr
  fd__law_well : FuncData
  a__law_draw : Addr
  fd__law_draw : FuncData
  a__law_one : Addr
  fd__law_one : FuncData
  a__law_errors : Addr
  fd__law_errors : FuncData
  a__law_kinds : Addr
  fd__law_kinds : FuncData
  a_law : Addr
  fd_law : FuncData
  c_NoSystem : Addr
  c_NoProcess : Addr
  c_NoPages : Addr
  c_NotMapped : Addr
  c_NoRight : Addr
  c_PastEnd : Addr
  c_NoFile : Addr
  c_Taken : Addr
  c_NoLock : Addr
  c_NoStep : Addr
  c_NoCharge : Addr
  c_NoRoom : Addr
  c_NoHistory : Addr
  c_PageError : Addr
  a_NoSystem_init : Addr
  fd_NoSystem_init : FuncData
  a_NoProcess_init : Addr
  fd_NoProcess_init : FuncData
  a_NoPages_init : Addr
  fd_NoPages_init : FuncData
  a_NotMapped_init : Addr
  fd_NotMapped_init : FuncData
  a_NoRight_init : Addr
  fd_NoRight_init : FuncData
  a_PastEnd_init : Addr
  fd_PastEnd_init : FuncData
  a_NoFile_init : Addr
  fd_NoFile_init : FuncData
  a_Taken_init : Addr
  fd_Taken_init : FuncData
  a_NoLock_init : Addr
  fd_NoLock_init : FuncData
  a_NoStep_init : Addr
  fd_NoStep_init : FuncData
/-- what the top has written -/
structure Txt (K : PySem.W.Frag) (mg : Str → Option Value) (A : Adr) : Prop where
  f__law_well : Fun K "_law_well" "_law_well" s__law_well A.a__law_well A.fd__law_well
  bi__law_well : L2.Binds K A.fd__law_well p__law_well []
  g__law_well : mg "_law_well" = some (.ref A.a__law_well)
  k__law_well : PySem.W.keepIn K (.ref A.a__law_well) = true
  f__law_draw : Fun K "_law_draw" "_law_draw" s__law_draw A.a__law_draw A.fd__law_draw
  bi__law_draw : L2.Binds K A.fd__law_draw p__law_draw []
  g__law_draw : mg "_law_draw" = some (.ref A.a__law_draw)
  k__law_draw : PySem.W.keepIn K (.ref A.a__law_draw) = true
  f__law_one : Fun K "_law_one" "_law_one" s__law_one A.a__law_one A.fd__law_one
  bi__law_one : L2.Binds K A.fd__law_one p__law_one []
  g__law_one : mg "_law_one" = some (.ref A.a__law_one)
  k__law_one : PySem.W.keepIn K (.ref A.a__law_one) = true
  f__law_errors : Fun K "_law_errors" "_law_errors" s__law_errors A.a__law_errors A.fd__law_errors
  bi__law_errors : L2.Binds K A.fd__law_errors p__law_errors []
  g__law_errors : mg "_law_errors" = some (.ref A.a__law_errors)
  k__law_errors : PySem.W.keepIn K (.ref A.a__law_errors) = true
  f__law_kinds : Fun K "_law_kinds" "_law_kinds" s__law_kinds A.a__law_kinds A.fd__law_kinds
  bi__law_kinds : L2.Binds K A.fd__law_kinds p__law_kinds []
  g__law_kinds : mg "_law_kinds" = some (.ref A.a__law_kinds)
  k__law_kinds : PySem.W.keepIn K (.ref A.a__law_kinds) = true
  f_law : Fun K "law" "law" s_law A.a_law A.fd_law
  bi_law : L2.Binds K A.fd_law p_law []
  g_law : mg "law" = some (.ref A.a_law)
  k_law : PySem.W.keepIn K (.ref A.a_law) = true
  g_NoSystem : mg "NoSystem" = some (.ref A.c_NoSystem)
  g_NoProcess : mg "NoProcess" = some (.ref A.c_NoProcess)
  g_NoPages : mg "NoPages" = some (.ref A.c_NoPages)
  g_NotMapped : mg "NotMapped" = some (.ref A.c_NotMapped)
  g_NoRight : mg "NoRight" = some (.ref A.c_NoRight)
  g_PastEnd : mg "PastEnd" = some (.ref A.c_PastEnd)
  g_NoFile : mg "NoFile" = some (.ref A.c_NoFile)
  g_Taken : mg "Taken" = some (.ref A.c_Taken)
  g_NoLock : mg "NoLock" = some (.ref A.c_NoLock)
  g_NoStep : mg "NoStep" = some (.ref A.c_NoStep)
  g_NoCharge : mg "NoCharge" = some (.ref A.c_NoCharge)
  g_NoRoom : mg "NoRoom" = some (.ref A.c_NoRoom)
  g_NoHistory : mg "NoHistory" = some (.ref A.c_NoHistory)
  g_PageError : mg "PageError" = some (.ref A.c_PageError)
  f_NoSystem_init : Fun K "__init__" "NoSystem.__init__" s_NoSystem_init A.a_NoSystem_init A.fd_NoSystem_init
  bi_NoSystem_init : L2.Binds K A.fd_NoSystem_init p_NoSystem_init []
  f_NoProcess_init : Fun K "__init__" "NoProcess.__init__" s_NoProcess_init A.a_NoProcess_init A.fd_NoProcess_init
  bi_NoProcess_init : L2.Binds K A.fd_NoProcess_init p_NoProcess_init []
  f_NoPages_init : Fun K "__init__" "NoPages.__init__" s_NoPages_init A.a_NoPages_init A.fd_NoPages_init
  bi_NoPages_init : L2.Binds K A.fd_NoPages_init p_NoPages_init []
  f_NotMapped_init : Fun K "__init__" "NotMapped.__init__" s_NotMapped_init A.a_NotMapped_init A.fd_NotMapped_init
  bi_NotMapped_init : L2.Binds K A.fd_NotMapped_init p_NotMapped_init []
  f_NoRight_init : Fun K "__init__" "NoRight.__init__" s_NoRight_init A.a_NoRight_init A.fd_NoRight_init
  bi_NoRight_init : L2.Binds K A.fd_NoRight_init p_NoRight_init []
  f_PastEnd_init : Fun K "__init__" "PastEnd.__init__" s_PastEnd_init A.a_PastEnd_init A.fd_PastEnd_init
  bi_PastEnd_init : L2.Binds K A.fd_PastEnd_init p_PastEnd_init []
  f_NoFile_init : Fun K "__init__" "NoFile.__init__" s_NoFile_init A.a_NoFile_init A.fd_NoFile_init
  bi_NoFile_init : L2.Binds K A.fd_NoFile_init p_NoFile_init []
  f_Taken_init : Fun K "__init__" "Taken.__init__" s_Taken_init A.a_Taken_init A.fd_Taken_init
  bi_Taken_init : L2.Binds K A.fd_Taken_init p_Taken_init []
  f_NoLock_init : Fun K "__init__" "NoLock.__init__" s_NoLock_init A.a_NoLock_init A.fd_NoLock_init
  bi_NoLock_init : L2.Binds K A.fd_NoLock_init p_NoLock_init []
  f_NoStep_init : Fun K "__init__" "NoStep.__init__" s_NoStep_init A.a_NoStep_init A.fd_NoStep_init
  bi_NoStep_init : L2.Binds K A.fd_NoStep_init p_NoStep_init []
  x_NoSystem : OexC K A.c_NoSystem
  xf_NoSystem : XfC K A.c_NoSystem
  xn_NoSystem : PySem.W.findIn K (.ref A.c_NoSystem) "part" = some none
  xi_NoSystem : PySem.W.findIn K (.ref A.c_NoSystem) "__init__" = some (some (.ref A.a_NoSystem_init))
  xt_NoSystem : PySem.W.typeIn K (.ref A.a_NoSystem_init) = some (.type "function")
  x_NoProcess : OexC K A.c_NoProcess
  xf_NoProcess : XfC K A.c_NoProcess
  xn_NoProcess : PySem.W.findIn K (.ref A.c_NoProcess) "process" = some none
  xi_NoProcess : PySem.W.findIn K (.ref A.c_NoProcess) "__init__" = some (some (.ref A.a_NoProcess_init))
  xt_NoProcess : PySem.W.typeIn K (.ref A.a_NoProcess_init) = some (.type "function")
  x_NoPages : OexC K A.c_NoPages
  xf_NoPages : XfC K A.c_NoPages
  xn_NoPages : PySem.W.findIn K (.ref A.c_NoPages) "part" = some none
  xi_NoPages : PySem.W.findIn K (.ref A.c_NoPages) "__init__" = some (some (.ref A.a_NoPages_init))
  xt_NoPages : PySem.W.typeIn K (.ref A.a_NoPages_init) = some (.type "function")
  x_NotMapped : OexC K A.c_NotMapped
  xf_NotMapped : XfC K A.c_NotMapped
  xn_NotMapped : PySem.W.findIn K (.ref A.c_NotMapped) "page" = some none
  xi_NotMapped : PySem.W.findIn K (.ref A.c_NotMapped) "__init__" = some (some (.ref A.a_NotMapped_init))
  xt_NotMapped : PySem.W.typeIn K (.ref A.a_NotMapped_init) = some (.type "function")
  x_NoRight : OexC K A.c_NoRight
  xf_NoRight : XfC K A.c_NoRight
  xn_NoRight : PySem.W.findIn K (.ref A.c_NoRight) "page" = some none
  xi_NoRight : PySem.W.findIn K (.ref A.c_NoRight) "__init__" = some (some (.ref A.a_NoRight_init))
  xt_NoRight : PySem.W.typeIn K (.ref A.a_NoRight_init) = some (.type "function")
  x_PastEnd : OexC K A.c_PastEnd
  xf_PastEnd : XfC K A.c_PastEnd
  xn_PastEnd : PySem.W.findIn K (.ref A.c_PastEnd) "page" = some none
  xi_PastEnd : PySem.W.findIn K (.ref A.c_PastEnd) "__init__" = some (some (.ref A.a_PastEnd_init))
  xt_PastEnd : PySem.W.typeIn K (.ref A.a_PastEnd_init) = some (.type "function")
  x_NoFile : OexC K A.c_NoFile
  xf_NoFile : XfC K A.c_NoFile
  xn_NoFile : PySem.W.findIn K (.ref A.c_NoFile) "name" = some none
  xi_NoFile : PySem.W.findIn K (.ref A.c_NoFile) "__init__" = some (some (.ref A.a_NoFile_init))
  xt_NoFile : PySem.W.typeIn K (.ref A.a_NoFile_init) = some (.type "function")
  x_Taken : OexC K A.c_Taken
  xf_Taken : XfC K A.c_Taken
  xn_Taken : PySem.W.findIn K (.ref A.c_Taken) "name" = some none
  xi_Taken : PySem.W.findIn K (.ref A.c_Taken) "__init__" = some (some (.ref A.a_Taken_init))
  xt_Taken : PySem.W.typeIn K (.ref A.a_Taken_init) = some (.type "function")
  x_NoLock : OexC K A.c_NoLock
  xf_NoLock : XfC K A.c_NoLock
  xn_NoLock : PySem.W.findIn K (.ref A.c_NoLock) "page" = some none
  xi_NoLock : PySem.W.findIn K (.ref A.c_NoLock) "__init__" = some (some (.ref A.a_NoLock_init))
  xt_NoLock : PySem.W.typeIn K (.ref A.a_NoLock_init) = some (.type "function")
  x_NoStep : OexC K A.c_NoStep
  xf_NoStep : XfC K A.c_NoStep
  xn_NoStep : PySem.W.findIn K (.ref A.c_NoStep) "at" = some none
  xi_NoStep : PySem.W.findIn K (.ref A.c_NoStep) "__init__" = some (some (.ref A.a_NoStep_init))
  xt_NoStep : PySem.W.typeIn K (.ref A.a_NoStep_init) = some (.type "function")
  x_NoCharge : OexC K A.c_NoCharge
  xf_NoCharge : XfC K A.c_NoCharge
  x_NoRoom : OexC K A.c_NoRoom
  xf_NoRoom : XfC K A.c_NoRoom
  x_NoHistory : OexC K A.c_NoHistory
  xf_NoHistory : XfC K A.c_NoHistory
  x_PageError : OexC K A.c_PageError
  xf_PageError : XfC K A.c_PageError
  b_int : mg "int" = none
  b_len : mg "len" = none
  b_isinstance : mg "isinstance" = none
  b_bool : mg "bool" = none
  b_str : mg "str" = none
  b_list : mg "list" = none
  b_range : mg "range" = none
  b_enumerate : mg "enumerate" = none
  b_ValueError : mg "ValueError" = none
  i_NoSystem : L2.ExcC K A.c_NoSystem
  i_NoProcess : L2.ExcC K A.c_NoProcess
  i_NoPages : L2.ExcC K A.c_NoPages
  i_NotMapped : L2.ExcC K A.c_NotMapped
  i_NoRight : L2.ExcC K A.c_NoRight
  i_PastEnd : L2.ExcC K A.c_PastEnd
  i_NoFile : L2.ExcC K A.c_NoFile
  i_Taken : L2.ExcC K A.c_Taken
  i_NoLock : L2.ExcC K A.c_NoLock
  i_NoStep : L2.ExcC K A.c_NoStep
  i_NoCharge : L2.ExcC K A.c_NoCharge
  q_NoCharge : PySem.W.excIn K A.c_NoCharge [.type "ValueError", .type "Exception", .type "BaseException", .type "object"] "ValueError.__new__" = true
  st_NoCharge : PySem.W.findIn K (.ref A.c_NoCharge) "__str__" = some (some (.builtin "BaseException.__str__"))
  kc_NoCharge : PySem.W.keepIn K (.ref A.c_NoCharge) = true
  i_NoRoom : L2.ExcC K A.c_NoRoom
  q_NoRoom : PySem.W.excIn K A.c_NoRoom [.type "ValueError", .type "Exception", .type "BaseException", .type "object"] "ValueError.__new__" = true
  st_NoRoom : PySem.W.findIn K (.ref A.c_NoRoom) "__str__" = some (some (.builtin "BaseException.__str__"))
  kc_NoRoom : PySem.W.keepIn K (.ref A.c_NoRoom) = true
  i_NoHistory : L2.ExcC K A.c_NoHistory
  q_NoHistory : PySem.W.excIn K A.c_NoHistory [.type "ValueError", .type "Exception", .type "BaseException", .type "object"] "ValueError.__new__" = true
  st_NoHistory : PySem.W.findIn K (.ref A.c_NoHistory) "__str__" = some (some (.builtin "BaseException.__str__"))
  kc_NoHistory : PySem.W.keepIn K (.ref A.c_NoHistory) = true
  kA : kitAll K [A.c_NoSystem, A.c_NoProcess, A.c_NoPages, A.c_NotMapped, A.c_NoRight, A.c_PastEnd, A.c_NoFile, A.c_Taken, A.c_NoLock, A.c_NoStep, A.c_NoCharge, A.c_NoRoom, A.c_NoHistory] = true
  kP : kitUp K [A.c_NoSystem, A.c_NoProcess, A.c_NoPages, A.c_NotMapped, A.c_NoRight, A.c_PastEnd, A.c_NoFile, A.c_Taken, A.c_NoLock, A.c_NoStep, A.c_NoCharge, A.c_NoRoom, A.c_NoHistory] (.ref A.c_PageError) = true
  kV : kitUp K [A.c_NoSystem, A.c_NoProcess, A.c_NoPages, A.c_NotMapped, A.c_NoRight, A.c_PastEnd, A.c_NoFile, A.c_Taken, A.c_NoLock, A.c_NoStep, A.c_NoCharge, A.c_NoRoom, A.c_NoHistory] (.type "ValueError") = true

theorem iteD {p : Prop} [Decidable p] {A B : Prop} (h1 : p → A) (h2 : ¬ p → B) : if decide p = true then A else B := by
  by_cases h : p
  · rw [decide_eq_true h, if_pos rfl]
    exact h1 h
  · rw [decide_eq_false h, if_neg Bool.false_ne_true]
    exact h2 h
theorem upd_none {H : Hp} {a p : Addr} {o : HO} (h : upd H a o p = none) : p ≠ a ∧ H p = none := by
  by_cases e : p = a
  · subst e; rw [upd_same] at h; cases h
  · rw [upd_ne e] at h; exact ⟨e, h⟩
/-- all but what is at a stays -/
def But (a : Addr) (H H' : Hp) : Prop := ∀ b o, b ≠ a → H b = some o → H' b = some o
theorem Same.new {H : Hp} {p : Addr} {o : HO} (h : H p = none) : Same H (upd H p o) := fun b u e => by rw [upd_ne (ne_of_none e h)]; exact e
theorem But.of {a : Addr} {H H' : Hp} (h : Same H H') : But a H H' := fun b o _ e => h b o e
theorem But.up {a : Addr} {H : Hp} {o : HO} : But a H (upd H a o) := fun b u n e => by rw [upd_ne n]; exact e
theorem But.trans {a : Addr} {H H1 H2 : Hp} (x : But a H H1) (y : But a H1 H2) : But a H H2 := fun b o n e => y b o n (x b o n e)
/-! ### the draws -/
def WellAt (H : Hp) (a : Addr) (B : Nat) : Prop := ∃ w0 w1 w2 : Int, H a = some (.lst [.int w0, .int w1, .int w2]) ∧ 0 ≤ w0 ∧ 0 ≤ w1 ∧ w1 < 2147483647 ∧ 0 ≤ w2 ∧ w2 ≤ B ∧ B ≤ 1000000000
theorem WellAt.same {H H' : Hp} {a : Addr} {B : Nat} (h : WellAt H a B) (e : H' a = H a) : WellAt H' a B := by
  obtain ⟨w0, w1, w2, h1, h2⟩ := h
  exact ⟨w0, w1, w2, e.trans h1, h2⟩
theorem at7 {i : Int} (h0 : 0 ≤ i) (h1 : i < 7) : ∃ v : Int, atI [V.int 2147483647, V.int 2147483629, V.int 2147483587, V.int 2147483579, V.int 2147483563, V.int 2147483549, V.int 2147483543] i = some (V.int v) ∧ 2147483543 ≤ v ∧ v ≤ 2147483647 := by
  have h : i = 0 ∨ i = 1 ∨ i = 2 ∨ i = 3 ∨ i = 4 ∨ i = 5 ∨ i = 6 := by omega
  rcases h with h | h | h | h | h | h | h <;> subst h <;> exact ⟨_, rfl, by decide, by decide⟩
theorem fm {x m : Int} (h : 0 < m) : 0 ≤ x.fmod m ∧ x.fmod m < m := ⟨Int.fmod_nonneg_of_pos x h, Int.fmod_lt_of_pos x h⟩
theorem fdv {x m : Int} (h : 0 < m) (hx : 0 ≤ x) : 0 ≤ x.fdiv m ∧ x.fdiv m ≤ x := by
  rw [Int.fdiv_eq_ediv_of_nonneg _ (by omega)]
  exact ⟨Int.ediv_nonneg hx (by omega), Int.ediv_le_self _ hx⟩
def spDraw : Sp := fun vs H Q _ => ∃ (a : Addr) (m : Int) (B : Nat), vs = [.ref a, .int m] ∧ 0 < m ∧ m < 1000000 ∧ WellAt H a B ∧ B < 1000000000 ∧
  ∀ (d : Int) (H' : Hp), 0 ≤ d → d < m → But a H H' → WellAt H' a (B + 1) → Q (.int d) H'
section
variable {P : Program} {w : World} {K : PySem.W.Frag} {mg : Str → Option Value} {base : Heap} {A : Adr}
theorem ok__law_draw (G : Txt K mg A) : FnOk P w K mg base CX0 1 A.a__law_draw A.fd__law_draw p__law_draw spDraw := by
  refine G.f__law_draw.ok sc__law_draw (fun vs H Q E h => ?_) (fun cdv A' outer s H vs Q E hr h => ?_)
  · obtain ⟨a, m, B, rfl, _⟩ := h
    rfl
  · obtain ⟨a, m, B, rfl, hm0, hm1, ⟨w0, w1, w2, hw, h0, h1, h1', h2, h2', hB⟩, hB', k⟩ := h
    refine ⟨_, (pss_cons (ps_if (pt_cmpR op_gt (pe_ix ix_list (pv 0) pe_int (fun _ _ => rfl)) pe_int (nomark _)) (pss_cons (ps_set (i := 2) sc__law_draw.nd rfl (Or.inl rfl) (pe_op op_modN (pe_callTy call_int1 (by rfl) G.b_int (by decide +kernel) (pa_cons (pe_ix ix_list (pv 0) pe_int (fun _ _ => rfl)) pa_nil)) (pv 1)))
  (pss_cons (ps_asg (pe_op op_fdivN (pe_ix ix_list (pv 0) pe_int (fun _ _ => rfl)) (pv 1)) (pg_sub (pv 0) pe_int set_list))
  (pss_one (ps_ret (pv 2))))) pss_nil)
  (pss_cons (ps_asg (pe_op op_add (pe_ix ix_list (pv 0) pe_int (fun _ _ => rfl)) pe_int) (pg_sub (pv 0) pe_int set_list))
  (pss_cons (ps_set (i := 3) sc__law_draw.nd rfl (Or.inl rfl) (pe_ix ix_list (pe_lst (pa_cons pe_int (pa_cons pe_int (pa_cons pe_int (pa_cons pe_int (pa_cons pe_int (pa_cons pe_int (pa_cons pe_int pa_nil)))))))) (pe_op op_modN (pe_callTy call_int1 (by rfl) G.b_int (by decide +kernel) (pa_cons (pe_ix ix_list (pv 0) pe_int (fun _ _ => rfl)) pa_nil)) pe_int) (fun _ _ => rfl)))
  (pss_cons (ps_set (i := 4) sc__law_draw.nd rfl (Or.inl rfl) (pe_op op_modN (pe_callTy call_int1 (by rfl) G.b_int (by decide +kernel) (pa_cons (pe_op op_pow (pe_op op_add (pe_op op_add (pe_ix ix_list (pv 0) pe_int (fun _ _ => rfl)) (pe_op op_mul pe_int (pe_ix ix_list (pv 0) pe_int (fun _ _ => rfl)))) pe_int) pe_int) pa_nil)) (pv 3)))
  (pss_cons (ps_set (i := 4) sc__law_draw.nd rfl (Or.inl rfl) (pe_op op_modN (pe_callTy call_int1 (by rfl) G.b_int (by decide +kernel) (pa_cons (pe_op op_mul (pe_op op_add (pv 4) (pe_ix ix_list (pv 0) pe_int (fun _ _ => rfl))) (pe_op op_add (pe_op op_fdivN (pv 4) pe_int) pe_int)) pa_nil)) (pv 3)))
  (pss_one (ps_ret (pe_op op_modN (pe_callTy call_int1 (by rfl) G.b_int (by decide +kernel) (pa_cons (pe_op op_fdivN (pv 4) pe_int) pa_nil)) (pv 1))))))))), ?_⟩
    walk_at "go"
    refine iteD (fun c => ?_) (fun c => ?_)
    · walk_at "go"
      have e1 := fm (x := w0) hm0
      have e2 := fdv hm0 h0
      refine k _ _ e1.1 e1.2 (fun b o hb ho => by rw [upd_ne hb]; exact ho) ⟨_, _, _, upd_same, e2.1, h1, h1', h2, by omega, by omega⟩
    · walk_at "go"
      walk_at "ds"
      refine ⟨by decide, fun p hp => ?_⟩
      obtain ⟨npa, hp0⟩ := upd_none hp
      walk_at "go"
      try walk_at "ds"
      have e7 := fm (x := w2 + 1) (m := 7) (by decide)
      obtain ⟨v, hv, hv1, hv2⟩ := at7 e7.1 e7.2
      refine ⟨_, _, _, _, rfl, rfl, SqL.of upd_same, hv, ?_⟩
      walk_at "go"
      have e1 := fm (x := (w1 + 7919 * (w2 + 1) + 1) ^ Int.toNat 5) (m := v) (by omega)
      generalize ((w1 + 7919 * (w2 + 1) + 1) ^ Int.toNat 5).fmod v = n1 at *
      refine ⟨Or.inl ⟨by omega, by omega⟩, ?_⟩
      walk_at "go"
      refine k _ _ (fm hm0).1 (fm hm0).2 (fun b o hb ho => ?_) ⟨_, _, _, Eq.trans (upd_ne (Ne.symm npa)) upd_same, h0, h1, h1', by omega, by omega, by omega⟩
      rw [upd_ne (ne_of_none ho hp0), upd_ne hb]
      exact ho
/-- one of some things: a list that is made just ahead -/
def spOne (K : PySem.W.Frag) : Sp := fun vs H Q _ => ∃ (a l : Addr) (xs : List V) (B : Nat), vs = [.ref a, .ref l] ∧ H l = some (.lst xs) ∧ l ≠ a ∧ 0 < xs.length ∧ xs.length < 1000 ∧ WellAt H a B ∧ B < 1000000000 ∧
  ∀ (v : V) (H' : Hp), v ∈ xs → But a H H' → WellAt H' a (B + 1) → Q v H'
theorem atI_in {xs : List V} {d : Int} (h0 : 0 ≤ d) (h1 : d < xs.length) : ∃ v, atI xs d = some v ∧ v ∈ xs := by
  refine ⟨xs[d.toNat]'(by omega), ?_, List.getElem_mem _⟩
  unfold atI ixN
  rw [if_pos h0, if_pos (by omega)]
  simp
theorem ok__law_one (G : Txt K mg A) : FnOk P w K mg base CX0 2 A.a__law_one A.fd__law_one p__law_one (spOne K) := by
  refine G.f__law_one.ok sc__law_one (fun vs H Q E h => ?_) (fun cdv A' outer s H vs Q E hr h => ?_)
  · obtain ⟨a, l, xs, B, rfl, _⟩ := h
    rfl
  · obtain ⟨a, l, xs, B, rfl, hl, hne, hx0, hx1, hw, hB, k⟩ := h
    refine ⟨_, (pss_one (ps_ret (pe_ix ix_list (pv 1) (pe_call (ok__law_draw G) (hr.mono (by decide)) rfl G.g__law_draw G.k__law_draw G.bi__law_draw .nil pass0 (pa_cons (pv 0) (pa_cons (pe_callB call_len_seq (by rfl) G.b_len (by decide +kernel) (pa_cons (pv 1) pa_nil)) pa_nil))) (fun _ _ => rfl)))), ?_⟩
    walk_at "go"
    refine ⟨a, xs.length, B, rfl, by omega, by omega, hw, hB, fun d H' d0 d1 kp hw' => ?_⟩
    obtain ⟨v, hv, hm⟩ := atI_in d0 d1
    exact ⟨_, _, _, _, rfl, rfl, SqL.of (kp _ _ hne hl), hv, k v H' hm kp hw'⟩
/-! ### what a value may be that a law draws -/
inductive AnyV (H : Hp) : V → Prop where
  | non : AnyV H .non
  | bl (b : Bool) : AnyV H (.bl b)
  | int (i : Int) : AnyV H (.int i)
  | str (x : Str) : AnyV H (.str x)
  | lst {a : Addr} {xs : List V} (e : H a = some (.lst xs)) : AnyV H (.ref a)
  | tup {a : Addr} {xs : List V} (e : H a = some (.tup xs)) : AnyV H (.ref a)
  | dK {a : Addr} {kvs : List (Key × V)} (e : H a = some (.dK kvs)) : AnyV H (.ref a)
def isI : V → Bool
  | .int _ => true
  | .bl _ => true
  | _ => false
def isB : V → Bool
  | .bl _ => true
  | _ => false
theorem AnyV.ty {H : Hp} {v : V} (h : AnyV H v) : ∃ t : String, TyX K H v (.type t) ∧ PySem.W.kitOne K (.type t) (.type "int") = some (isI v) ∧ PySem.W.kitOne K (.type t) (.type "bool") = some (isB v) := by
  cases h with
  | non => exact ⟨_, .base .non, kit_ty (r := false) (by decide +kernel), kit_ty (r := false) (by decide +kernel)⟩
  | bl b => exact ⟨_, .base (.bl b), kit_ty (r := true) (by decide +kernel), kit_ty (r := true) (by decide +kernel)⟩
  | int i => exact ⟨_, .base (.int i), kit_ty (r := true) (by decide +kernel), kit_ty (r := false) (by decide +kernel)⟩
  | str x => exact ⟨_, .base (.str x), kit_ty (r := false) (by decide +kernel), kit_ty (r := false) (by decide +kernel)⟩
  | lst e => exact ⟨_, .base (.lst e), kit_ty (r := false) (by decide +kernel), kit_ty (r := false) (by decide +kernel)⟩
  | tup e => exact ⟨_, .base (.tup e), kit_ty (r := false) (by decide +kernel), kit_ty (r := false) (by decide +kernel)⟩
  | dK e => exact ⟨_, .base (.dK e), kit_ty (r := false) (by decide +kernel), kit_ty (r := false) (by decide +kernel)⟩
theorem AnyV.same {H H' : Hp} {v : V} (h : AnyV H v) (e : Same H H') : AnyV H' v := by
  cases h with
  | non => exact .non
  | bl b => exact .bl b
  | int i => exact .int i
  | str x => exact .str x
  | lst z => exact .lst (e _ _ z)
  | tup z => exact .tup (e _ _ z)
  | dK z => exact .dK (e _ _ z)
theorem AnyV.selfEq {H : Hp} {v : V} (h : AnyV H v) : L2.selfEq v = true := by cases h <;> rfl
end
/-! ### the errors' __init__: one field -/
section
variable {P : Program} {w : World} {K : PySem.W.Frag} {mg : Str → Option Value} {base : Heap} {A : Adr}
def spXi (K : PySem.W.Frag) (f : Str) : Sp := fun vs H Q _ => ∃ (a C : Addr) (y : V), vs = [.ref a, y] ∧ OexC K C ∧ PySem.W.findIn K (.ref C) f = some none ∧ H a = some (exo a C none) ∧
  ∀ dx, H dx = none → dx ≠ a → Q .non (upd (upd H dx (exd dx [(f, y)])) a (exo a C (some dx)))
theorem ok_NoSystem_init (G : Txt K mg A) : FnOk P w K mg base CX0 1 A.a_NoSystem_init A.fd_NoSystem_init p_NoSystem_init (spXi K "part") := by
  refine G.f_NoSystem_init.ok sc_NoSystem_init (fun vs H Q E h => ?_) (fun cdv A' outer s H vs Q E hr h => ?_)
  · obtain ⟨a, C, y, rfl, _⟩ := h
    rfl
  · obtain ⟨a, C, y, rfl, hC, hn, ha, k⟩ := h
    exact ⟨_, pss_one (ps_ost (pv 0) (pv 1)), _, rfl, _, rfl, a, C, rfl, hC, hn, .inl ⟨ha, k⟩⟩
theorem ok_NoProcess_init (G : Txt K mg A) : FnOk P w K mg base CX0 1 A.a_NoProcess_init A.fd_NoProcess_init p_NoProcess_init (spXi K "process") := by
  refine G.f_NoProcess_init.ok sc_NoProcess_init (fun vs H Q E h => ?_) (fun cdv A' outer s H vs Q E hr h => ?_)
  · obtain ⟨a, C, y, rfl, _⟩ := h
    rfl
  · obtain ⟨a, C, y, rfl, hC, hn, ha, k⟩ := h
    exact ⟨_, pss_one (ps_ost (pv 0) (pv 1)), _, rfl, _, rfl, a, C, rfl, hC, hn, .inl ⟨ha, k⟩⟩
theorem ok_NoPages_init (G : Txt K mg A) : FnOk P w K mg base CX0 1 A.a_NoPages_init A.fd_NoPages_init p_NoPages_init (spXi K "part") := by
  refine G.f_NoPages_init.ok sc_NoPages_init (fun vs H Q E h => ?_) (fun cdv A' outer s H vs Q E hr h => ?_)
  · obtain ⟨a, C, y, rfl, _⟩ := h
    rfl
  · obtain ⟨a, C, y, rfl, hC, hn, ha, k⟩ := h
    exact ⟨_, pss_one (ps_ost (pv 0) (pv 1)), _, rfl, _, rfl, a, C, rfl, hC, hn, .inl ⟨ha, k⟩⟩
theorem ok_NotMapped_init (G : Txt K mg A) : FnOk P w K mg base CX0 1 A.a_NotMapped_init A.fd_NotMapped_init p_NotMapped_init (spXi K "page") := by
  refine G.f_NotMapped_init.ok sc_NotMapped_init (fun vs H Q E h => ?_) (fun cdv A' outer s H vs Q E hr h => ?_)
  · obtain ⟨a, C, y, rfl, _⟩ := h
    rfl
  · obtain ⟨a, C, y, rfl, hC, hn, ha, k⟩ := h
    exact ⟨_, pss_one (ps_ost (pv 0) (pv 1)), _, rfl, _, rfl, a, C, rfl, hC, hn, .inl ⟨ha, k⟩⟩
theorem ok_NoRight_init (G : Txt K mg A) : FnOk P w K mg base CX0 1 A.a_NoRight_init A.fd_NoRight_init p_NoRight_init (spXi K "page") := by
  refine G.f_NoRight_init.ok sc_NoRight_init (fun vs H Q E h => ?_) (fun cdv A' outer s H vs Q E hr h => ?_)
  · obtain ⟨a, C, y, rfl, _⟩ := h
    rfl
  · obtain ⟨a, C, y, rfl, hC, hn, ha, k⟩ := h
    exact ⟨_, pss_one (ps_ost (pv 0) (pv 1)), _, rfl, _, rfl, a, C, rfl, hC, hn, .inl ⟨ha, k⟩⟩
theorem ok_PastEnd_init (G : Txt K mg A) : FnOk P w K mg base CX0 1 A.a_PastEnd_init A.fd_PastEnd_init p_PastEnd_init (spXi K "page") := by
  refine G.f_PastEnd_init.ok sc_PastEnd_init (fun vs H Q E h => ?_) (fun cdv A' outer s H vs Q E hr h => ?_)
  · obtain ⟨a, C, y, rfl, _⟩ := h
    rfl
  · obtain ⟨a, C, y, rfl, hC, hn, ha, k⟩ := h
    exact ⟨_, pss_one (ps_ost (pv 0) (pv 1)), _, rfl, _, rfl, a, C, rfl, hC, hn, .inl ⟨ha, k⟩⟩
theorem ok_NoFile_init (G : Txt K mg A) : FnOk P w K mg base CX0 1 A.a_NoFile_init A.fd_NoFile_init p_NoFile_init (spXi K "name") := by
  refine G.f_NoFile_init.ok sc_NoFile_init (fun vs H Q E h => ?_) (fun cdv A' outer s H vs Q E hr h => ?_)
  · obtain ⟨a, C, y, rfl, _⟩ := h
    rfl
  · obtain ⟨a, C, y, rfl, hC, hn, ha, k⟩ := h
    exact ⟨_, pss_one (ps_ost (pv 0) (pv 1)), _, rfl, _, rfl, a, C, rfl, hC, hn, .inl ⟨ha, k⟩⟩
theorem ok_Taken_init (G : Txt K mg A) : FnOk P w K mg base CX0 1 A.a_Taken_init A.fd_Taken_init p_Taken_init (spXi K "name") := by
  refine G.f_Taken_init.ok sc_Taken_init (fun vs H Q E h => ?_) (fun cdv A' outer s H vs Q E hr h => ?_)
  · obtain ⟨a, C, y, rfl, _⟩ := h
    rfl
  · obtain ⟨a, C, y, rfl, hC, hn, ha, k⟩ := h
    exact ⟨_, pss_one (ps_ost (pv 0) (pv 1)), _, rfl, _, rfl, a, C, rfl, hC, hn, .inl ⟨ha, k⟩⟩
theorem ok_NoLock_init (G : Txt K mg A) : FnOk P w K mg base CX0 1 A.a_NoLock_init A.fd_NoLock_init p_NoLock_init (spXi K "page") := by
  refine G.f_NoLock_init.ok sc_NoLock_init (fun vs H Q E h => ?_) (fun cdv A' outer s H vs Q E hr h => ?_)
  · obtain ⟨a, C, y, rfl, _⟩ := h
    rfl
  · obtain ⟨a, C, y, rfl, hC, hn, ha, k⟩ := h
    exact ⟨_, pss_one (ps_ost (pv 0) (pv 1)), _, rfl, _, rfl, a, C, rfl, hC, hn, .inl ⟨ha, k⟩⟩
theorem ok_NoStep_init (G : Txt K mg A) : FnOk P w K mg base CX0 1 A.a_NoStep_init A.fd_NoStep_init p_NoStep_init (spXi K "at") := by
  refine G.f_NoStep_init.ok sc_NoStep_init (fun vs H Q E h => ?_) (fun cdv A' outer s H vs Q E hr h => ?_)
  · obtain ⟨a, C, y, rfl, _⟩ := h
    rfl
  · obtain ⟨a, C, y, rfl, hC, hn, ha, k⟩ := h
    exact ⟨_, pss_one (ps_ost (pv 0) (pv 1)), _, rfl, _, rfl, a, C, rfl, hC, hn, .inl ⟨ha, k⟩⟩
end
end My

set_option Elab.async false
set_option linter.all false
set_option maxRecDepth 100000
set_option maxHeartbeats 4000000
namespace My
open PySem L2
local macro_rules | `(tactic| walk_at "ds") => `(tactic| dsimp only [tSeq, tIfS, tTest, tB, tAnd, tOr, tNot, tAndV, tOrV, tNotV, tIf, tIsN, tNotN, tOp, tUn, tChain, rI, rI0, rU, tC, tCB, tCons, tNil, tAsg, gName, gSub, tRet, tRetN, tNext, tDrop, tLst, tTup, rIxL, rIxT, rSetL, tVar, tFld, tCall, tDGet, tDIn, tDNotIn, tNever, L2.start, List.map, List.replicate, List.length, List.append, List.cons_append, List.nil_append, List.set, Nat.sub])
local macro_rules | `(tactic| walk_at "hp") => `(tactic| first | assumption | exact upd_same | (refine Eq.trans (upd_ne (by first | assumption | (apply Ne.symm; assumption))) ?_; walk_at "hp"))
local macro_rules | `(tactic| walk_at "sd") => `(tactic| first
  | (show (_ : Int) ≠ 0; omega)
  | (refine (show CDivN _ _ from ⟨?_, ?_⟩) <;> omega)
  | (show CPow _ _; refine ⟨by omega, by omega, by omega⟩)
  | (show CMul _ _; exact Or.inl ⟨by omega, by omega⟩)
  | (show CMul _ _; exact Or.inr ⟨by omega, by omega⟩))
local macro_rules | `(tactic| walk_at "st") => `(tactic| first
  | refine ⟨_, rfl, ?_⟩
  | refine ⟨_, _, rfl, rfl, (by walk_at "sd"), ?_⟩
  | refine ⟨_, _, rfl, rfl, ?_⟩
  | refine ⟨_, _, _, _, rfl, rfl, SqL.of (by walk_at "hp"), rfl, ?_⟩
  | refine ⟨_, _, _, _, rfl, rfl, (by walk_at "hp"), rfl, ?_⟩
  | refine .inl ⟨_, rfl, ?_⟩
  | refine ⟨_, _, _, _, _, rfl, (by walk_at "hp"), (by assumption), (by assumption), rfl, ?_⟩
  | refine ⟨_, _, rfl, .inl (SqL.of (by walk_at "hp")), ?_⟩)
local macro_rules | `(tactic| walk_at "go") => `(tactic| repeat (first | walk_at "st" | (walk_at "ds"; walk_at "st")))

/-- the thirteen classes, in the law's order -/
def cs (A : Adr) : List Addr := [A.c_NoSystem, A.c_NoProcess, A.c_NoPages, A.c_NotMapped, A.c_NoRight, A.c_PastEnd, A.c_NoFile, A.c_Taken, A.c_NoLock, A.c_NoStep, A.c_NoCharge, A.c_NoRoom, A.c_NoHistory]
section
variable {P : Program} {w : World} {K : PySem.W.Frag} {mg : Str → Option Value} {base : Heap} {A : Adr}
theorem excs (G : Txt K mg A) {C : Addr} (h : C ∈ cs A) : L2.ExcC K C := by
  simp only [cs, List.mem_cons, List.not_mem_nil, or_false] at h
  rcases h with rfl | rfl | rfl | rfl | rfl | rfl | rfl | rfl | rfl | rfl | rfl | rfl | rfl
  · exact G.i_NoSystem
  · exact G.i_NoProcess
  · exact G.i_NoPages
  · exact G.i_NotMapped
  · exact G.i_NoRight
  · exact G.i_PastEnd
  · exact G.i_NoFile
  · exact G.i_Taken
  · exact G.i_NoLock
  · exact G.i_NoStep
  · exact G.i_NoCharge
  · exact G.i_NoRoom
  · exact G.i_NoHistory
theorem exo_lst {e C : Addr} {d : Option Addr} {xs : List V} : exo e C d ≠ .lst xs := fun z => by
  have z' : HO.ext _ = HO.lst xs := z
  cases z'
theorem exd_lst {e : Addr} {fs : List (Str × V)} {xs : List V} : exd e fs ≠ .lst xs := fun z => by
  have z' : HO.ext _ = HO.lst xs := z
  cases z'
theorem exS_lst {e C t : Addr} {xs : List V} : exS e C t ≠ .lst xs := fun z => by
  have z' : HO.ext _ = HO.lst xs := z
  cases z'
/-- an exception of the class at C stands at e -/
def EA (H : Hp) (e C : Addr) : Prop := (∃ d fs, H e = some (exo e C (some d)) ∧ H d = some (exd d fs)) ∨ ∃ t, H e = some (exS e C t)
/-- .. with its one field -/
def EF (H : Hp) (e C : Addr) (f : Str) (y : V) : Prop := ∃ d, H e = some (exo e C (some d)) ∧ H d = some (exd d [(f, y)])
theorem EF.ea {H : Hp} {e C : Addr} {f : Str} {y : V} (h : EF H e C f y) : EA H e C := by
  obtain ⟨d, h1, h2⟩ := h
  exact .inl ⟨d, _, h1, h2⟩
theorem EA.same {H H' : Hp} {e C : Addr} (h : EA H e C) (s : Same H H') : EA H' e C := by
  rcases h with ⟨d, fs, h1, h2⟩ | ⟨t, h1⟩
  · exact .inl ⟨d, fs, s _ _ h1, s _ _ h2⟩
  · exact .inr ⟨t, s _ _ h1⟩
theorem EF.same {H H' : Hp} {e C : Addr} {f : Str} {y : V} (h : EF H e C f y) (s : Same H H') : EF H' e C f y := by
  obtain ⟨d, h1, h2⟩ := h
  exact ⟨d, s _ _ h1, s _ _ h2⟩
theorem EA.but {H H' : Hp} {e C a : Addr} {xs : List V} (h : EA H e C) (s : But a H H') (ha : H a = some (.lst xs)) : EA H' e C := by
  rcases h with ⟨d, fs, h1, h2⟩ | ⟨t, h1⟩
  · exact .inl ⟨d, fs, s _ _ (ne_of h1 ha exo_lst) h1, s _ _ (ne_of h2 ha exd_lst) h2⟩
  · exact .inr ⟨t, s _ _ (ne_of h1 ha exS_lst) h1⟩
def kinds (i : Nat) : List V := (List.range 13).map fun j => .bl (i == j)
def spKinds (A : Adr) : Sp := fun vs H Q _ => ∃ (e C : Addr) (i : Nat), vs = [.ref e] ∧ (cs A)[i]? = some C ∧ EA H e C ∧ ∀ l H', Same H H' → H' l = some (.lst (kinds i)) → Q (.ref l) H'
theorem ok__law_kinds (G : Txt K mg A) : FnOk P w K mg base CX0 1 A.a__law_kinds A.fd__law_kinds p__law_kinds (spKinds A) := by
  refine G.f__law_kinds.ok sc__law_kinds (fun vs H Q E h => ?_) (fun cdv A' outer s H vs Q E hr h => ?_)
  · obtain ⟨e, C, i, rfl, _⟩ := h
    rfl
  · obtain ⟨e, C, i, rfl, hi, ea, k⟩ := h
    have T := excs G (List.mem_of_getElem? hi)
    refine ⟨_, (pss_cons (ps_set (i := 1) sc__law_kinds.nd rfl (Or.inl rfl) (pe_lst (pa_cons (pe_callB call_isX (by rfl) G.b_isinstance (by decide +kernel) (pa_cons (pv 0) (pa_cons (pe_glob (v := .ref A.c_NoSystem) rfl G.g_NoSystem rfl) pa_nil))) (pa_cons (pe_callB call_isX (by rfl) G.b_isinstance (by decide +kernel) (pa_cons (pv 0) (pa_cons (pe_glob (v := .ref A.c_NoProcess) rfl G.g_NoProcess rfl) pa_nil))) (pa_cons (pe_callB call_isX (by rfl) G.b_isinstance (by decide +kernel) (pa_cons (pv 0) (pa_cons (pe_glob (v := .ref A.c_NoPages) rfl G.g_NoPages rfl) pa_nil))) pa_nil)))))
  (pss_cons (ps_set (i := 2) sc__law_kinds.nd rfl (Or.inl rfl) (pe_lst (pa_cons (pe_callB call_isX (by rfl) G.b_isinstance (by decide +kernel) (pa_cons (pv 0) (pa_cons (pe_glob (v := .ref A.c_NotMapped) rfl G.g_NotMapped rfl) pa_nil))) (pa_cons (pe_callB call_isX (by rfl) G.b_isinstance (by decide +kernel) (pa_cons (pv 0) (pa_cons (pe_glob (v := .ref A.c_NoRight) rfl G.g_NoRight rfl) pa_nil))) (pa_cons (pe_callB call_isX (by rfl) G.b_isinstance (by decide +kernel) (pa_cons (pv 0) (pa_cons (pe_glob (v := .ref A.c_PastEnd) rfl G.g_PastEnd rfl) pa_nil))) pa_nil)))))
  (pss_cons (ps_set (i := 3) sc__law_kinds.nd rfl (Or.inl rfl) (pe_lst (pa_cons (pe_callB call_isX (by rfl) G.b_isinstance (by decide +kernel) (pa_cons (pv 0) (pa_cons (pe_glob (v := .ref A.c_NoFile) rfl G.g_NoFile rfl) pa_nil))) (pa_cons (pe_callB call_isX (by rfl) G.b_isinstance (by decide +kernel) (pa_cons (pv 0) (pa_cons (pe_glob (v := .ref A.c_Taken) rfl G.g_Taken rfl) pa_nil))) (pa_cons (pe_callB call_isX (by rfl) G.b_isinstance (by decide +kernel) (pa_cons (pv 0) (pa_cons (pe_glob (v := .ref A.c_NoLock) rfl G.g_NoLock rfl) pa_nil))) pa_nil)))))
  (pss_cons (ps_set (i := 4) sc__law_kinds.nd rfl (Or.inl rfl) (pe_lst (pa_cons (pe_callB call_isX (by rfl) G.b_isinstance (by decide +kernel) (pa_cons (pv 0) (pa_cons (pe_glob (v := .ref A.c_NoStep) rfl G.g_NoStep rfl) pa_nil))) (pa_cons (pe_callB call_isX (by rfl) G.b_isinstance (by decide +kernel) (pa_cons (pv 0) (pa_cons (pe_glob (v := .ref A.c_NoCharge) rfl G.g_NoCharge rfl) pa_nil))) (pa_cons (pe_callB call_isX (by rfl) G.b_isinstance (by decide +kernel) (pa_cons (pv 0) (pa_cons (pe_glob (v := .ref A.c_NoRoom) rfl G.g_NoRoom rfl) pa_nil))) pa_nil)))))
  (pss_one (ps_ret (pe_op op_cat (pe_op op_cat (pe_op op_cat (pe_op op_cat (pv 1) (pv 2)) (pv 3)) (pv 4)) (pe_lst (pa_cons (pe_callB call_isX (by rfl) G.b_isinstance (by decide +kernel) (pa_cons (pv 0) (pa_cons (pe_glob (v := .ref A.c_NoHistory) rfl G.g_NoHistory rfl) pa_nil))) pa_nil))))))))), ?_⟩
    have kt : ∀ {j : Nat} {D : Addr}, (cs A)[j]? = some D → PySem.W.kitOne K (.ref C) (.ref D) = some (i == j) := fun hj => kitAll_at G.kA hi hj
    refine ⟨_, rfl, ⟨e, C, _, _, _, rfl, .own _, ea, T, kt (j := 0) rfl, _, rfl, ⟨e, C, _, _, _, rfl, .own _, ea, T, kt (j := 1) rfl, _, rfl, ⟨e, C, _, _, _, rfl, .own _, ea, T, kt (j := 2) rfl, (by show 3 ≤ sizeLine; decide), fun q1 hq1 => ?_⟩⟩⟩⟩
    have s1 := Same.new (o := .lst [V.bl (i == 0), V.bl (i == 1), V.bl (i == 2)]) hq1
    have e1 := ea.same s1
    refine ⟨_, rfl, ⟨e, C, _, _, _, rfl, .own _, e1, T, kt (j := 3) rfl, _, rfl, ⟨e, C, _, _, _, rfl, .own _, e1, T, kt (j := 4) rfl, _, rfl, ⟨e, C, _, _, _, rfl, .own _, e1, T, kt (j := 5) rfl, (by show 3 ≤ sizeLine; decide), fun q2 hq2 => ?_⟩⟩⟩⟩
    have s2 := Same.new (o := .lst [V.bl (i == 3), V.bl (i == 4), V.bl (i == 5)]) hq2
    have e2 := e1.same s2
    refine ⟨_, rfl, ⟨e, C, _, _, _, rfl, .own _, e2, T, kt (j := 6) rfl, _, rfl, ⟨e, C, _, _, _, rfl, .own _, e2, T, kt (j := 7) rfl, _, rfl, ⟨e, C, _, _, _, rfl, .own _, e2, T, kt (j := 8) rfl, (by show 3 ≤ sizeLine; decide), fun q3 hq3 => ?_⟩⟩⟩⟩
    have s3 := Same.new (o := .lst [V.bl (i == 6), V.bl (i == 7), V.bl (i == 8)]) hq3
    have e3 := e2.same s3
    refine ⟨_, rfl, ⟨e, C, _, _, _, rfl, .own _, e3, T, kt (j := 9) rfl, _, rfl, ⟨e, C, _, _, _, rfl, .own _, e3, T, kt (j := 10) rfl, _, rfl, ⟨e, C, _, _, _, rfl, .own _, e3, T, kt (j := 11) rfl, (by show 3 ≤ sizeLine; decide), fun q4 hq4 => ?_⟩⟩⟩⟩
    have s4 := Same.new (o := .lst [V.bl (i == 9), V.bl (i == 10), V.bl (i == 11)]) hq4
    have e4 := e3.same s4
    refine ⟨_, rfl, _, rfl, q1, q2, _, _, rfl, rfl, s4 _ _ (s3 _ _ (s2 _ _ upd_same)), s4 _ _ (s3 _ _ upd_same), (by show 6 ≤ sizeLine; decide), fun q5 hq5 => ?_⟩
    have s5 := Same.new (o := .lst ([V.bl (i == 0), V.bl (i == 1), V.bl (i == 2)] ++ [V.bl (i == 3), V.bl (i == 4), V.bl (i == 5)])) hq5
    refine ⟨_, rfl, q5, q3, _, _, rfl, rfl, upd_same, s5 _ _ (s4 _ _ upd_same), (by show 9 ≤ sizeLine; decide), fun q6 hq6 => ?_⟩
    have s6 := Same.new (o := .lst (([V.bl (i == 0), V.bl (i == 1), V.bl (i == 2)] ++ [V.bl (i == 3), V.bl (i == 4), V.bl (i == 5)]) ++ [V.bl (i == 6), V.bl (i == 7), V.bl (i == 8)])) hq6
    refine ⟨_, rfl, q6, q4, _, _, rfl, rfl, upd_same, s6 _ _ (s5 _ _ upd_same), (by show 12 ≤ sizeLine; decide), fun q7 hq7 => ?_⟩
    have s7 := Same.new (o := .lst ((([V.bl (i == 0), V.bl (i == 1), V.bl (i == 2)] ++ [V.bl (i == 3), V.bl (i == 4), V.bl (i == 5)]) ++ [V.bl (i == 6), V.bl (i == 7), V.bl (i == 8)]) ++ [V.bl (i == 9), V.bl (i == 10), V.bl (i == 11)])) hq7
    refine ⟨_, rfl, ⟨e, C, _, _, _, rfl, .own _, ((e4.same s5).same s6).same s7, T, kt (j := 12) rfl, (by show 1 ≤ sizeLine; decide), fun q8 hq8 => ?_⟩⟩
    have s8 := Same.new (o := .lst [V.bl (i == 12)]) hq8
    refine ⟨q7, q8, _, _, rfl, rfl, s8 _ _ upd_same, upd_same, (by show 13 ≤ sizeLine; decide), fun q9 hq9 => ?_⟩
    exact k q9 _ ((((((((s1.trans s2).trans s3).trans s4).trans s5).trans s6).trans s7).trans s8).trans (Same.new hq9)) upd_same
end
end My

set_option Elab.async false
set_option linter.all false
set_option maxRecDepth 100000
set_option maxHeartbeats 4000000
namespace My
open PySem L2
local macro_rules | `(tactic| walk_at "ds") => `(tactic| dsimp only [tSeq, tIfS, tTest, tB, tAnd, tOr, tNot, tAndV, tOrV, tNotV, tIf, tIsN, tNotN, tOp, tUn, tChain, rI, rI0, rU, tC, tCB, tCons, tNil, tAsg, gName, gSub, tRet, tRetN, tNext, tDrop, tLst, tTup, rIxL, rIxT, rSetL, tVar, tFld, tCall, tDGet, tDIn, tDNotIn, tNever, L2.start, List.map, List.replicate, List.length, List.append, List.cons_append, List.nil_append, List.set, Nat.sub])
local macro_rules | `(tactic| walk_at "hp") => `(tactic| first | assumption | exact upd_same | (refine Eq.trans (upd_ne (by first | assumption | (apply Ne.symm; assumption))) ?_; walk_at "hp"))
local macro_rules | `(tactic| walk_at "sd") => `(tactic| first
  | (show (_ : Int) ≠ 0; omega)
  | (refine (show CDivN _ _ from ⟨?_, ?_⟩) <;> omega)
  | (show CPow _ _; refine ⟨by omega, by omega, by omega⟩)
  | (show CMul _ _; exact Or.inl ⟨by omega, by omega⟩)
  | (show CMul _ _; exact Or.inr ⟨by omega, by omega⟩))
local macro_rules | `(tactic| walk_at "st") => `(tactic| first
  | refine ⟨_, rfl, ?_⟩
  | refine ⟨_, _, rfl, rfl, (by walk_at "sd"), ?_⟩
  | refine ⟨_, _, rfl, rfl, ?_⟩
  | refine ⟨_, _, _, _, rfl, rfl, SqL.of (by walk_at "hp"), rfl, ?_⟩
  | refine ⟨_, _, _, _, rfl, rfl, (by walk_at "hp"), rfl, ?_⟩
  | refine .inl ⟨_, rfl, ?_⟩
  | refine ⟨_, _, _, _, _, rfl, (by walk_at "hp"), (by assumption), (by assumption), rfl, ?_⟩
  | refine ⟨_, _, rfl, .inl (SqL.of (by walk_at "hp")), ?_⟩)
local macro_rules | `(tactic| walk_at "go") => `(tactic| repeat (first | walk_at "st" | (walk_at "ds"; walk_at "st")))

section
variable {P : Program} {w : World} {K : PySem.W.Frag} {mg : Str → Option Value} {base : Heap} {A : Adr}
def spWell : Sp := fun vs H Q _ => ∃ n : Int, vs = [.int n] ∧ ∀ (a : Addr) (H' : Hp), H a = none → Same H H' → WellAt H' a 0 → Q (.ref a) H'
theorem ok__law_well (G : Txt K mg A) : FnOk P w K mg base CX0 1 A.a__law_well A.fd__law_well p__law_well spWell := by
  refine G.f__law_well.ok sc__law_well (fun vs H Q E h => ?_) (fun cdv A' outer s H vs Q E hr h => ?_)
  · obtain ⟨n, rfl, _⟩ := h
    rfl
  · obtain ⟨n, rfl, k⟩ := h
    refine ⟨_, (pss_one (ps_ret (pe_lst (pa_cons (pe_op op_mul (pv 0) (pe_callTy call_int1 (by rfl) G.b_int (by decide +kernel) (pa_cons (pe_cmpR op_ge (pv 0) (pe_op op_pow pe_int pe_int) (nomark _)) pa_nil))) (pa_cons (pe_op op_modN (pe_callTy call_int1 (by rfl) G.b_int (by decide +kernel) (pa_cons (pv 0) pa_nil)) pe_int) (pa_cons pe_int pa_nil)))))), ?_⟩
    walk_at "go"
    walk_at "ds"
    refine .inr ⟨_, rfl, n, _, rfl, rfl, Or.inr (by split <;> decide), _, rfl, .inl ⟨_, rfl, _, _, rfl, rfl, by decide, by decide, fun p hp => ?_⟩⟩
    refine k p _ hp (Same.new hp) ⟨_, _, _, upd_same, ?_, (fm (by decide)).1, (fm (by decide)).2, Int.le_refl _, Int.le_refl _, by decide⟩
    by_cases c : (10 : Int) ^ Int.toNat 18 ≤ n
    · rw [decide_eq_true c, if_pos rfl, Int.mul_one]
      exact Int.le_trans (by decide) c
    · rw [decide_eq_false c, if_neg Bool.false_ne_true, Int.mul_zero]
      exact Int.le_refl _
/-- a row: the error and the object -/
def RowAt (H : Hp) (p C : Addr) (y : V) : Prop := ∃ e, H p = some (.tup [.ref e, y]) ∧ EA H e C
inductive Rows (H : Hp) (y : V) : List Addr → List Addr → Prop
  | nil : Rows H y [] []
  | cons {p C : Addr} {ps Cs : List Addr} (h : RowAt H p C y) (r : Rows H y ps Cs) : Rows H y (p :: ps) (C :: Cs)
theorem RowAt.same {H H' : Hp} {p C : Addr} {y : V} (h : RowAt H p C y) (s : Same H H') : RowAt H' p C y := by
  obtain ⟨e, h1, h2⟩ := h
  exact ⟨e, s _ _ h1, h2.same s⟩
theorem Rows.map {H H' : Hp} {y : V} (f : ∀ p C, RowAt H p C y → RowAt H' p C y) : ∀ {ps Cs : List Addr}, Rows H y ps Cs → Rows H' y ps Cs
  | _, _, .nil => .nil
  | _, _, .cons h r => .cons (f _ _ h) (Rows.map f r)
theorem Rows.same {H H' : Hp} {y : V} {ps Cs : List Addr} (h : Rows H y ps Cs) (s : Same H H') : Rows H' y ps Cs := h.map fun _ _ z => z.same s
theorem Rows.but {H H' : Hp} {a : Addr} {xs : List V} {y : V} {ps Cs : List Addr} (h : Rows H y ps Cs) (s : But a H H') (ha : H a = some (.lst xs)) : Rows H' y ps Cs := h.map fun p C ⟨e, h1, h2⟩ => ⟨e, s _ _ (ne_of h1 ha (by intro z; cases z)) h1, h2.but s ha⟩
theorem Rows.snoc {H : Hp} {y : V} {p C : Addr} : ∀ {ps Cs : List Addr}, Rows H y ps Cs → RowAt H p C y → Rows H y (ps ++ [p]) (Cs ++ [C])
  | _, _, .nil, h => .cons h .nil
  | _, _, .cons h0 r, h => .cons h0 (r.snoc h)
theorem Rows.get {H : Hp} {y : V} : ∀ {ps Cs : List Addr} {i : Nat} {p : Addr}, Rows H y ps Cs → ps[i]? = some p → ∃ C, Cs[i]? = some C ∧ RowAt H p C y
  | _, _, i, p, .nil, h => by simp at h
  | _, _, 0, p, .cons h0 r, h => by
    simp at h
    subst h
    exact ⟨_, rfl, h0⟩
  | _, _, i + 1, p, .cons h0 r, h => by
    obtain ⟨C, h1, h2⟩ := r.get (i := i) (by simpa using h)
    exact ⟨C, by simpa using h1, h2⟩
theorem Rows.len {H : Hp} {y : V} : ∀ {ps Cs : List Addr}, Rows H y ps Cs → ps.length = Cs.length
  | _, _, .nil => rfl
  | _, _, .cons _ r => by simp [r.len]
/-- such an error made -/
theorem mk_step {C a : Addr} {f : Str} {y : V} {H : Hp} {R : VK} {E : XK} (ha : H a = none) (hC : OexC K C) (hn : PySem.W.findIn K (.ref C) f = some none) (k : ∀ H', Same H H' → EF H' a C f y → R .non H') :
    spXi K f [.ref a, y] (upd H a (exo a C none)) R E :=
  ⟨a, C, y, rfl, hC, hn, upd_same, fun dx hx ne => k _ (fun b o e => by
    obtain ⟨h1, h2⟩ := upd_none hx
    rw [upd_ne (ne_of_none e ha), upd_ne (ne_of_none e h2), upd_ne (ne_of_none e ha)]
    exact e) ⟨dx, upd_same, by rw [upd_ne ne, upd_same]⟩⟩
theorem lk1 {f : Str} {y : V} : ([(f, y)] : List (Str × V)).lookup f = some y := by simp [List.lookup]
theorem row_new {H : Hp} {e p C : Addr} {f : Str} {y : V} (h : EF H e C f y) (hp : H p = none) : RowAt (upd H p (.tup [.ref e, y])) p C y := ⟨e, upd_same, h.ea.same (Same.new hp)⟩
def spErrs (A : Adr) : Sp := fun vs H Q _ => ∃ y : V, vs = [y] ∧ ∀ l ps H', Same H H' → H l = none → H' l = some (.lst (ps.map V.ref)) → Rows H' y ps ((cs A).take 10) → Q (.ref l) H'
theorem ok__law_errors (G : Txt K mg A) : FnOk P w K mg base CX0 3 A.a__law_errors A.fd__law_errors p__law_errors (spErrs A) := by
  refine G.f__law_errors.ok sc__law_errors (fun vs H Q E h => ?_) (fun cdv A' outer s H vs Q E hr h => ?_)
  · obtain ⟨y, rfl, _⟩ := h
    rfl
  · obtain ⟨y, rfl, k⟩ := h
    refine ⟨_, (pss_cons (ps_asg (pe_tup (pa_cons (pe_oex G.x_NoSystem G.xi_NoSystem G.xt_NoSystem (ok_NoSystem_init G) (hr.mono (by decide)) G.bi_NoSystem_init pass0 rfl G.g_NoSystem (pa_cons (pv 0) pa_nil)) (pa_cons (pe_oex G.x_NoProcess G.xi_NoProcess G.xt_NoProcess (ok_NoProcess_init G) (hr.mono (by decide)) G.bi_NoProcess_init pass0 rfl G.g_NoProcess (pa_cons (pv 0) pa_nil)) (pa_cons (pe_oex G.x_NoPages G.xi_NoPages G.xt_NoPages (ok_NoPages_init G) (hr.mono (by decide)) G.bi_NoPages_init pass0 rfl G.g_NoPages (pa_cons (pv 0) pa_nil)) (pa_cons (pe_oex G.x_NotMapped G.xi_NotMapped G.xt_NotMapped (ok_NotMapped_init G) (hr.mono (by decide)) G.bi_NotMapped_init pass0 rfl G.g_NotMapped (pa_cons (pv 0) pa_nil)) (pa_cons (pe_oex G.x_NoRight G.xi_NoRight G.xt_NoRight (ok_NoRight_init G) (hr.mono (by decide)) G.bi_NoRight_init pass0 rfl G.g_NoRight (pa_cons (pv 0) pa_nil)) pa_nil)))))) (pg_tup rfl (pgs_cons (pg_name (i := 1) sc__law_errors.nd rfl (Or.inl rfl)) (pgs_cons (pg_name (i := 2) sc__law_errors.nd rfl (Or.inl rfl)) (pgs_cons (pg_name (i := 3) sc__law_errors.nd rfl (Or.inl rfl)) (pgs_cons (pg_name (i := 4) sc__law_errors.nd rfl (Or.inl rfl)) (pgs_cons (pg_name (i := 5) sc__law_errors.nd rfl (Or.inl rfl)) pgs_nil)))))))
  (pss_cons (ps_set (i := 6) sc__law_errors.nd rfl (Or.inl rfl) (pe_lst (pa_cons (pe_tup (pa_cons (pv 1) (pa_cons (pe_exf (pv 1)) pa_nil))) (pa_cons (pe_tup (pa_cons (pv 2) (pa_cons (pe_exf (pv 2)) pa_nil))) (pa_cons (pe_tup (pa_cons (pv 3) (pa_cons (pe_exf (pv 3)) pa_nil))) (pa_cons (pe_tup (pa_cons (pv 4) (pa_cons (pe_exf (pv 4)) pa_nil))) (pa_cons (pe_tup (pa_cons (pv 5) (pa_cons (pe_exf (pv 5)) pa_nil))) pa_nil)))))))
  (pss_cons (ps_asg (pe_tup (pa_cons (pe_oex G.x_PastEnd G.xi_PastEnd G.xt_PastEnd (ok_PastEnd_init G) (hr.mono (by decide)) G.bi_PastEnd_init pass0 rfl G.g_PastEnd (pa_cons (pv 0) pa_nil)) (pa_cons (pe_oex G.x_NoFile G.xi_NoFile G.xt_NoFile (ok_NoFile_init G) (hr.mono (by decide)) G.bi_NoFile_init pass0 rfl G.g_NoFile (pa_cons (pv 0) pa_nil)) (pa_cons (pe_oex G.x_Taken G.xi_Taken G.xt_Taken (ok_Taken_init G) (hr.mono (by decide)) G.bi_Taken_init pass0 rfl G.g_Taken (pa_cons (pv 0) pa_nil)) (pa_cons (pe_oex G.x_NoLock G.xi_NoLock G.xt_NoLock (ok_NoLock_init G) (hr.mono (by decide)) G.bi_NoLock_init pass0 rfl G.g_NoLock (pa_cons (pv 0) pa_nil)) (pa_cons (pe_oex G.x_NoStep G.xi_NoStep G.xt_NoStep (ok_NoStep_init G) (hr.mono (by decide)) G.bi_NoStep_init pass0 rfl G.g_NoStep (pa_cons (pv 0) pa_nil)) pa_nil)))))) (pg_tup rfl (pgs_cons (pg_name (i := 7) sc__law_errors.nd rfl (Or.inl rfl)) (pgs_cons (pg_name (i := 8) sc__law_errors.nd rfl (Or.inl rfl)) (pgs_cons (pg_name (i := 9) sc__law_errors.nd rfl (Or.inl rfl)) (pgs_cons (pg_name (i := 10) sc__law_errors.nd rfl (Or.inl rfl)) (pgs_cons (pg_name (i := 11) sc__law_errors.nd rfl (Or.inl rfl)) pgs_nil)))))))
  (pss_one (ps_ret (pe_op op_cat (pv 6) (pe_lst (pa_cons (pe_tup (pa_cons (pv 7) (pa_cons (pe_exf (pv 7)) pa_nil))) (pa_cons (pe_tup (pa_cons (pv 8) (pa_cons (pe_exf (pv 8)) pa_nil))) (pa_cons (pe_tup (pa_cons (pv 9) (pa_cons (pe_exf (pv 9)) pa_nil))) (pa_cons (pe_tup (pa_cons (pv 10) (pa_cons (pe_exf (pv 10)) pa_nil))) (pa_cons (pe_tup (pa_cons (pv 11) (pa_cons (pe_exf (pv 11)) pa_nil))) pa_nil)))))))))))), ?_⟩
    refine ⟨_, rfl, (by show 1 ≤ 1000; decide), fun e1 he1 => mk_step he1 G.x_NoSystem G.xn_NoSystem fun H1 s1 r1 => ⟨rfl, ?_⟩⟩
    refine ⟨_, rfl, (by show 1 ≤ 1000; decide), fun e2 he2 => mk_step he2 G.x_NoProcess G.xn_NoProcess fun H2 s2 r2 => ⟨rfl, ?_⟩⟩
    refine ⟨_, rfl, (by show 1 ≤ 1000; decide), fun e3 he3 => mk_step he3 G.x_NoPages G.xn_NoPages fun H3 s3 r3 => ⟨rfl, ?_⟩⟩
    refine ⟨_, rfl, (by show 1 ≤ 1000; decide), fun e4 he4 => mk_step he4 G.x_NotMapped G.xn_NotMapped fun H4 s4 r4 => ⟨rfl, ?_⟩⟩
    refine ⟨_, rfl, (by show 1 ≤ 1000; decide), fun e5 he5 => mk_step he5 G.x_NoRight G.xn_NoRight fun H5 s5 r5 => ⟨rfl, ?_⟩⟩
    refine ⟨(by show 5 ≤ sizeLine; decide), fun t1 ht1 => ⟨t1, _, rfl, SqT.of upd_same, rfl, ?_⟩⟩
    have s6 := Same.new (o := .tup [V.ref e1, V.ref e2, V.ref e3, V.ref e4, V.ref e5]) ht1
    have q1 := ((((r1.same s2).same s3).same s4).same s5).same s6
    have q2 := (((r2.same s3).same s4).same s5).same s6
    have q3 := ((r3.same s4).same s5).same s6
    have q4 := (r4.same s5).same s6
    have q5 := r5.same s6
    have S6 := ((((s1.trans s2).trans s3).trans s4).trans s5).trans s6
    clear r1 r2 r3 r4 r5 s1 s2 s3 s4 s5 s6
    generalize upd H5 t1 (.tup [V.ref e1, V.ref e2, V.ref e3, V.ref e4, V.ref e5]) = H6 at *
    refine ⟨_, _, rfl, _, _, rfl, _, _, rfl, _, _, rfl, _, _, rfl, rfl, ?_⟩
    have q1r := q1
    obtain ⟨d, h1, h2⟩ := id q1r
    refine ⟨_, rfl, _, rfl, _, A.c_NoSystem, d, _, y, rfl, G.xf_NoSystem, G.xn_NoSystem, h1, h2, lk1, (by show 2 ≤ sizeLine; decide), fun p1 hp => ?_⟩
    have w1 := row_new q1r hp
    have s7 := Same.new (o := .tup [V.ref e1, y]) hp
    generalize hg : upd H6 p1 (.tup [V.ref e1, y]) = H7 at *
    clear hg hp h1 h2 q1r
    have q2r := (q2.same s7)
    obtain ⟨d, h1, h2⟩ := id q2r
    refine ⟨_, rfl, _, rfl, _, A.c_NoProcess, d, _, y, rfl, G.xf_NoProcess, G.xn_NoProcess, h1, h2, lk1, (by show 2 ≤ sizeLine; decide), fun p2 hp => ?_⟩
    have w2 := row_new q2r hp
    have s8 := Same.new (o := .tup [V.ref e2, y]) hp
    generalize hg : upd H7 p2 (.tup [V.ref e2, y]) = H8 at *
    clear hg hp h1 h2 q2r
    have q3r := ((q3.same s7).same s8)
    obtain ⟨d, h1, h2⟩ := id q3r
    refine ⟨_, rfl, _, rfl, _, A.c_NoPages, d, _, y, rfl, G.xf_NoPages, G.xn_NoPages, h1, h2, lk1, (by show 2 ≤ sizeLine; decide), fun p3 hp => ?_⟩
    have w3 := row_new q3r hp
    have s9 := Same.new (o := .tup [V.ref e3, y]) hp
    generalize hg : upd H8 p3 (.tup [V.ref e3, y]) = H9 at *
    clear hg hp h1 h2 q3r
    have q4r := (((q4.same s7).same s8).same s9)
    obtain ⟨d, h1, h2⟩ := id q4r
    refine ⟨_, rfl, _, rfl, _, A.c_NotMapped, d, _, y, rfl, G.xf_NotMapped, G.xn_NotMapped, h1, h2, lk1, (by show 2 ≤ sizeLine; decide), fun p4 hp => ?_⟩
    have w4 := row_new q4r hp
    have s10 := Same.new (o := .tup [V.ref e4, y]) hp
    generalize hg : upd H9 p4 (.tup [V.ref e4, y]) = H10 at *
    clear hg hp h1 h2 q4r
    have q5r := ((((q5.same s7).same s8).same s9).same s10)
    obtain ⟨d, h1, h2⟩ := id q5r
    refine ⟨_, rfl, _, rfl, _, A.c_NoRight, d, _, y, rfl, G.xf_NoRight, G.xn_NoRight, h1, h2, lk1, (by show 2 ≤ sizeLine; decide), fun p5 hp => ?_⟩
    have w5 := row_new q5r hp
    have s11 := Same.new (o := .tup [V.ref e5, y]) hp
    generalize hg : upd H10 p5 (.tup [V.ref e5, y]) = H11 at *
    clear hg hp h1 h2 q5r
    refine ⟨(by show 5 ≤ sizeLine; decide), fun l1 hl1 => ?_⟩
    have s12 := Same.new (o := .lst [V.ref p1, V.ref p2, V.ref p3, V.ref p4, V.ref p5]) hl1
    have L1 : (upd H11 l1 (.lst [V.ref p1, V.ref p2, V.ref p3, V.ref p4, V.ref p5])) l1 = some (.lst [V.ref p1, V.ref p2, V.ref p3, V.ref p4, V.ref p5]) := upd_same
    have v1 := ((((w1.same s8).same s9).same s10).same s11).same s12
    have v2 := (((w2.same s9).same s10).same s11).same s12
    have v3 := ((w3.same s10).same s11).same s12
    have v4 := (w4.same s11).same s12
    have v5 := w5.same s12
    have S12 := (((((S6.trans s7).trans s8).trans s9).trans s10).trans s11).trans s12
    clear w1 w2 w3 w4 w5 s7 s8 s9 s10 s11 s12 q1 q2 q3 q4 q5 S6
    generalize upd H11 l1 (.lst [V.ref p1, V.ref p2, V.ref p3, V.ref p4, V.ref p5]) = H12 at *
    refine ⟨_, rfl, (by show 1 ≤ 1000; decide), fun e6 he6 => mk_step he6 G.x_PastEnd G.xn_PastEnd fun H1 s1 r1 => ⟨rfl, ?_⟩⟩
    refine ⟨_, rfl, (by show 1 ≤ 1000; decide), fun e7 he7 => mk_step he7 G.x_NoFile G.xn_NoFile fun H2 s2 r2 => ⟨rfl, ?_⟩⟩
    refine ⟨_, rfl, (by show 1 ≤ 1000; decide), fun e8 he8 => mk_step he8 G.x_Taken G.xn_Taken fun H3 s3 r3 => ⟨rfl, ?_⟩⟩
    refine ⟨_, rfl, (by show 1 ≤ 1000; decide), fun e9 he9 => mk_step he9 G.x_NoLock G.xn_NoLock fun H4 s4 r4 => ⟨rfl, ?_⟩⟩
    refine ⟨_, rfl, (by show 1 ≤ 1000; decide), fun e10 he10 => mk_step he10 G.x_NoStep G.xn_NoStep fun H5 s5 r5 => ⟨rfl, ?_⟩⟩
    refine ⟨(by show 5 ≤ sizeLine; decide), fun t2 ht2 => ⟨t2, _, rfl, SqT.of upd_same, rfl, ?_⟩⟩
    have s6 := Same.new (o := .tup [V.ref e6, V.ref e7, V.ref e8, V.ref e9, V.ref e10]) ht2
    have q1 := ((((r1.same s2).same s3).same s4).same s5).same s6
    have q2 := (((r2.same s3).same s4).same s5).same s6
    have q3 := ((r3.same s4).same s5).same s6
    have q4 := (r4.same s5).same s6
    have q5 := r5.same s6
    have S6 := ((((s1.trans s2).trans s3).trans s4).trans s5).trans s6
    clear r1 r2 r3 r4 r5 s1 s2 s3 s4 s5 s6
    generalize upd H5 t2 (.tup [V.ref e6, V.ref e7, V.ref e8, V.ref e9, V.ref e10]) = H6' at *
    refine ⟨_, _, rfl, _, _, rfl, _, _, rfl, _, _, rfl, _, _, rfl, rfl, ?_⟩
    refine ⟨_, rfl, ?_⟩
    have q1r := q1
    obtain ⟨d, h1, h2⟩ := id q1r
    refine ⟨_, rfl, _, rfl, _, A.c_PastEnd, d, _, y, rfl, G.xf_PastEnd, G.xn_PastEnd, h1, h2, lk1, (by show 2 ≤ sizeLine; decide), fun p6 hp => ?_⟩
    have w1 := row_new q1r hp
    have s7 := Same.new (o := .tup [V.ref e6, y]) hp
    generalize hg : upd H6' p6 (.tup [V.ref e6, y]) = H7 at *
    clear hg hp h1 h2 q1r
    have q2r := (q2.same s7)
    obtain ⟨d, h1, h2⟩ := id q2r
    refine ⟨_, rfl, _, rfl, _, A.c_NoFile, d, _, y, rfl, G.xf_NoFile, G.xn_NoFile, h1, h2, lk1, (by show 2 ≤ sizeLine; decide), fun p7 hp => ?_⟩
    have w2 := row_new q2r hp
    have s8 := Same.new (o := .tup [V.ref e7, y]) hp
    generalize hg : upd H7 p7 (.tup [V.ref e7, y]) = H8 at *
    clear hg hp h1 h2 q2r
    have q3r := ((q3.same s7).same s8)
    obtain ⟨d, h1, h2⟩ := id q3r
    refine ⟨_, rfl, _, rfl, _, A.c_Taken, d, _, y, rfl, G.xf_Taken, G.xn_Taken, h1, h2, lk1, (by show 2 ≤ sizeLine; decide), fun p8 hp => ?_⟩
    have w3 := row_new q3r hp
    have s9 := Same.new (o := .tup [V.ref e8, y]) hp
    generalize hg : upd H8 p8 (.tup [V.ref e8, y]) = H9 at *
    clear hg hp h1 h2 q3r
    have q4r := (((q4.same s7).same s8).same s9)
    obtain ⟨d, h1, h2⟩ := id q4r
    refine ⟨_, rfl, _, rfl, _, A.c_NoLock, d, _, y, rfl, G.xf_NoLock, G.xn_NoLock, h1, h2, lk1, (by show 2 ≤ sizeLine; decide), fun p9 hp => ?_⟩
    have w4 := row_new q4r hp
    have s10 := Same.new (o := .tup [V.ref e9, y]) hp
    generalize hg : upd H9 p9 (.tup [V.ref e9, y]) = H10 at *
    clear hg hp h1 h2 q4r
    have q5r := ((((q5.same s7).same s8).same s9).same s10)
    obtain ⟨d, h1, h2⟩ := id q5r
    refine ⟨_, rfl, _, rfl, _, A.c_NoStep, d, _, y, rfl, G.xf_NoStep, G.xn_NoStep, h1, h2, lk1, (by show 2 ≤ sizeLine; decide), fun p10 hp => ?_⟩
    have w5 := row_new q5r hp
    have s11 := Same.new (o := .tup [V.ref e10, y]) hp
    generalize hg : upd H10 p10 (.tup [V.ref e10, y]) = H11 at *
    clear hg hp h1 h2 q5r
    refine ⟨(by show 5 ≤ sizeLine; decide), fun l2 hl2 => ?_⟩
    have s12 := Same.new (o := .lst [V.ref p6, V.ref p7, V.ref p8, V.ref p9, V.ref p10]) hl2
    have S13 := (((((S6.trans s7).trans s8).trans s9).trans s10).trans s11).trans s12
    have x1 := ((((w1.same s8).same s9).same s10).same s11).same s12
    have x2 := (((w2.same s9).same s10).same s11).same s12
    have x3 := ((w3.same s10).same s11).same s12
    have x4 := (w4.same s11).same s12
    have x5 := w5.same s12
    refine ⟨l1, l2, _, _, rfl, rfl, S13 _ _ L1, upd_same, (by show 10 ≤ sizeLine; decide), fun l hl => ?_⟩
    have s14 := Same.new (o := .lst ([V.ref p1, V.ref p2, V.ref p3, V.ref p4, V.ref p5] ++ [V.ref p6, V.ref p7, V.ref p8, V.ref p9, V.ref p10])) hl
    have s15 := S13.trans s14
    refine k l [p1, p2, p3, p4, p5, p6, p7, p8, p9, p10] _ (S12.trans s15) ?_ upd_same (.cons (v1.same s15) (.cons (v2.same s15) (.cons (v3.same s15) (.cons (v4.same s15) (.cons (v5.same s15) (.cons (x1.same s14) (.cons (x2.same s14) (.cons (x3.same s14) (.cons (x4.same s14) (.cons (x5.same s14) .nil))))))))))
    cases z : H l with
    | none => rfl
    | some o =>
      have := (S12.trans S13) _ _ z
      rw [hl] at this
      cases this
end
end My

set_option Elab.async false
set_option linter.all false
set_option maxRecDepth 100000
set_option maxHeartbeats 4000000
namespace My
open PySem L2
local macro_rules | `(tactic| walk_at "ds") => `(tactic| dsimp only [tSeq, tIfS, tTest, tB, tAnd, tOr, tNot, tAndV, tOrV, tNotV, tIf, tIsN, tNotN, tOp, tUn, tChain, rI, rI0, rU, tC, tCB, tCons, tNil, tAsg, gName, gSub, tRet, tRetN, tNext, tDrop, tLst, tTup, rIxL, rIxT, rSetL, tVar, tFld, tCall, tDGet, tDIn, tDNotIn, tNever, L2.start, List.map, List.replicate, List.length, List.append, List.cons_append, List.nil_append, List.set, Nat.sub])
local macro_rules | `(tactic| walk_at "hp") => `(tactic| first | assumption | exact upd_same | (refine Eq.trans (upd_ne (by first | assumption | (apply Ne.symm; assumption))) ?_; walk_at "hp"))
local macro_rules | `(tactic| walk_at "sd") => `(tactic| first
  | (show (_ : Int) ≠ 0; omega)
  | (refine (show CDivN _ _ from ⟨?_, ?_⟩) <;> omega)
  | (show CPow _ _; refine ⟨by omega, by omega, by omega⟩)
  | (show CMul _ _; exact Or.inl ⟨by omega, by omega⟩)
  | (show CMul _ _; exact Or.inr ⟨by omega, by omega⟩))
local macro_rules | `(tactic| walk_at "st") => `(tactic| first
  | refine ⟨_, rfl, ?_⟩
  | refine ⟨_, _, rfl, rfl, (by walk_at "sd"), ?_⟩
  | refine ⟨_, _, rfl, rfl, ?_⟩
  | refine ⟨_, _, _, _, rfl, rfl, SqL.of (by walk_at "hp"), rfl, ?_⟩
  | refine ⟨_, _, _, _, rfl, rfl, (by walk_at "hp"), rfl, ?_⟩
  | refine .inl ⟨_, rfl, ?_⟩
  | refine ⟨_, _, _, _, _, rfl, (by walk_at "hp"), (by assumption), (by assumption), rfl, ?_⟩
  | refine ⟨_, _, rfl, .inl (SqL.of (by walk_at "hp")), ?_⟩)
local macro_rules | `(tactic| walk_at "go") => `(tactic| repeat (first | walk_at "st" | (walk_at "ds"; walk_at "st")))

section
variable {P : Program} {w : World} {K : PySem.W.Frag} {mg : Str → Option Value} {base : Heap} {A : Adr}
theorem WellAt.lst {H : Hp} {a : Addr} {B : Nat} (h : WellAt H a B) : ∃ xs, H a = some (.lst xs) := by
  obtain ⟨w0, w1, w2, h1, _⟩ := h
  exact ⟨_, h1⟩
theorem hu64 {A : Around} {k : Nat} (hr : Room k A) : A.units + 64 < cLine := by have := hr.un; omega
theorem hu0 {A : Around} {k : Nat} (hr : Room k A) : A.units < cLine := by have := hr.un; omega
theorem iteT {A B : Prop} (h : A) : if true = true then A else B := h
theorem iteF {A B : Prop} (h : B) : if false = true then A else B := h
/-- what the law draws, at most n long if it is a list -/
inductive Thing (H : Hp) (n : Nat) : V → Prop where
  | non : Thing H n .non
  | bl (b : Bool) : Thing H n (.bl b)
  | int (i : Int) : Thing H n (.int i)
  | str (x : Str) : Thing H n (.str x)
  | lst {a : Addr} {xs : List V} (e : H a = some (.lst xs)) (f : xs.all flatB = true) (l : xs.length ≤ n) : Thing H n (.ref a)
  | tup {a : Addr} {xs : List V} (e : H a = some (.tup xs)) (f : xs.all flatB = true) : Thing H n (.ref a)
  | dic {a : Addr} (e : H a = some (.dK [])) : Thing H n (.ref a)
theorem Thing.own {H : Hp} {n : Nat} {v : V} (h : Thing H n v) : Own H v := by
  cases h with
  | non => exact .flat rfl
  | bl b => exact .flat rfl
  | int i => exact .flat rfl
  | str x => exact .flat rfl
  | lst e f l => exact .lst e f
  | tup e f => exact .tup e f
  | dic e => exact .dic e
theorem Thing.same {H H' : Hp} {n : Nat} {v : V} (h : Thing H n v) (s : Same H H') : Thing H' n v := by
  cases h with
  | non => exact .non
  | bl b => exact .bl b
  | int i => exact .int i
  | str x => exact .str x
  | lst e f l => exact .lst (s _ _ e) f l
  | tup e f => exact .tup (s _ _ e) f
  | dic e => exact .dic (s _ _ e)
theorem Thing.but {H H' : Hp} {n : Nat} {v : V} {a : Addr} (h : Thing H n v) (ne : v ≠ .ref a) (s : But a H H') : Thing H' n v := by
  have q : ∀ {b : Addr}, V.ref b ≠ .ref a → b ≠ a := fun z e => z (by rw [e])
  cases h with
  | non => exact .non
  | bl b => exact .bl b
  | int i => exact .int i
  | str x => exact .str x
  | lst e f l => exact .lst (s _ _ (q ne) e) f l
  | tup e f => exact .tup (s _ _ (q ne) e) f
  | dic e => exact .dic (s _ _ (q ne) e)
theorem Thing.mono {H : Hp} {n m : Nat} {v : V} (h : Thing H n v) (le : n ≤ m) : Thing H m v := by
  cases h with
  | non => exact .non
  | bl b => exact .bl b
  | int i => exact .int i
  | str x => exact .str x
  | lst e f l => exact .lst e f (Nat.le_trans l le)
  | tup e f => exact .tup e f
  | dic e => exact .dic e
theorem Thing.ty {H : Hp} {n : Nat} {v : V} (h : Thing H n v) : ∃ t : String, TyX K H v (.type t) ∧ PySem.W.kitOne K (.type t) (.type "bool") = some (isB v) ∧ ∃ b, PySem.W.kitOne K (.type t) (.type "list") = some b ∧
    (b = true → ∃ a xs, v = .ref a ∧ H a = some (.lst xs) ∧ xs.all flatB = true ∧ xs.length ≤ n) := by
  cases h with
  | non => exact ⟨_, .base .non, kit_ty (r := false) (by decide +kernel), false, kit_ty (by decide +kernel), fun z => by cases z⟩
  | bl b => exact ⟨_, .base (.bl b), kit_ty (r := true) (by decide +kernel), false, kit_ty (by decide +kernel), fun z => by cases z⟩
  | int i => exact ⟨_, .base (.int i), kit_ty (r := false) (by decide +kernel), false, kit_ty (by decide +kernel), fun z => by cases z⟩
  | str x => exact ⟨_, .base (.str x), kit_ty (r := false) (by decide +kernel), false, kit_ty (by decide +kernel), fun z => by cases z⟩
  | lst e f l => exact ⟨_, .base (.lst e), kit_ty (r := false) (by decide +kernel), true, kit_ty (by decide +kernel), fun _ => ⟨_, _, rfl, e, f, l⟩⟩
  | tup e f => exact ⟨_, .base (.tup e), kit_ty (r := false) (by decide +kernel), false, kit_ty (by decide +kernel), fun z => by cases z⟩
  | dic e => exact ⟨_, .base (.dK e), kit_ty (r := false) (by decide +kernel), false, kit_ty (by decide +kernel), fun z => by cases z⟩
/-! bools -/
theorem dp_bools {K : PySem.W.Frag} {H : Hp} : ∀ bs : List Bool, DpAll K H (bs.map V.bl) (bs.map PyData.bool)
  | [] => .nil
  | b :: bs => .cons (.bl b) (dp_bools bs)
theorem shaped_bools (bs : List Bool) : SeqAt.shaped (.list (bs.map PyData.bool)) = true := by
  have h1 : ∀ ns : List Bool, PyData.canLayAll0 (ns.map PyData.bool) = true := fun ns => by
    induction ns with
    | nil => rfl
    | cons n ns ih => simp [PyData.canLayAll0, PyData.canLay0, ih]
  have h2 : ∀ ns : List Bool, PyData.depthAll (ns.map PyData.bool) = 0 := fun ns => by
    induction ns with
    | nil => rfl
    | cons n ns ih => simp [PyData.depthAll, PyData.depth, ih]
  unfold SeqAt.shaped
  simp [PyData.canLay0, PyData.depth, h1, h2]
theorem eqv_bools (bs : List Bool) : PyData.eqv (.list (bs.map PyData.bool)) (.list (bs.map PyData.bool)) = true := by
  have h : ∀ ns : List Bool, PyData.eqvAll (ns.map PyData.bool) (ns.map PyData.bool) = true := fun ns => by
    induction ns with
    | nil => simp [PyData.eqvAll]
    | cons n ns ih => simp [PyData.eqvAll, PyData.eqv, ih]
  simp only [PyData.eqv, h]
/-! the three errors with a text -/
def TxtAt (H : Hp) (v : V) (C : Addr) (x : Str) : Prop := ∃ e t, v = .ref e ∧ H e = some (exS e C t) ∧ H t = some (.tup [.str x])
theorem TxtAt.same {H H' : Hp} {v : V} {C : Addr} {x : Str} (h : TxtAt H v C x) (s : Same H H') : TxtAt H' v C x := by
  obtain ⟨e, t, h0, h1, h2⟩ := h
  exact ⟨e, t, h0, s _ _ h1, s _ _ h2⟩
theorem TxtAt.but {H H' : Hp} {v : V} {C a : Addr} {x : Str} {xs : List V} (h : TxtAt H v C x) (s : But a H H') (ha : H a = some (.lst xs)) : TxtAt H' v C x := by
  obtain ⟨e, t, h0, h1, h2⟩ := h
  exact ⟨e, t, h0, s _ _ (ne_of h1 ha exS_lst) h1, s _ _ (ne_of h2 ha (by intro z; cases z)) h2⟩
theorem txt_new {H : Hp} {e t C : Addr} {x : Str} (he : H e = none) (ht : H t = none) (ne : e ≠ t) : Same H (upd (upd H t (.tup [.str x])) e (exS e C t)) ∧ TxtAt (upd (upd H t (.tup [.str x])) e (exS e C t)) (.ref e) C x :=
  ⟨(Same.new ht).trans (Same.new (by rw [upd_ne ne]; exact he)), e, t, rfl, upd_same, by rw [upd_ne (Ne.symm ne), upd_same]⟩
/-- where the law stands, the rows made -/
structure Z (A : Adr) (H : Hp) (q l : Addr) (L : List V) (v : V) (ps : List Addr) (m n : Nat) : Prop where
  hq : H q = some (.lst L)
  hl : H l = some (.lst (ps.map V.ref))
  rw : Rows H v ps ((cs A).take m)
  th : Thing H n v
  lq : l ≠ q
  vq : v ≠ .ref q
  vl : v ≠ .ref l
theorem Z.same {H H' : Hp} {q l : Addr} {L : List V} {v : V} {ps : List Addr} {m n : Nat} (z : Z A H q l L v ps m n) (s : Same H H') : Z A H' q l L v ps m n :=
  ⟨s _ _ z.hq, s _ _ z.hl, z.rw.same s, z.th.same s, z.lq, z.vq, z.vl⟩
theorem Z.but {H H' : Hp} {q l a : Addr} {L : List V} {v : V} {ps : List Addr} {m n : Nat} {xs : List V} (z : Z A H q l L v ps m n) (s : But a H H') (ha : H a = some (.lst xs)) (h1 : q ≠ a) (h2 : l ≠ a) (h3 : v ≠ .ref a) : Z A H' q l L v ps m n :=
  ⟨s _ _ h1 z.hq, s _ _ h2 z.hl, z.rw.but s ha, z.th.but h3 s, z.lq, z.vq, z.vl⟩
def spLaw : PySem.W.Frag → Sp := fun K vs H Q _ => ∃ (a : Addr) (ns : List Int), vs = [.ref a] ∧ SqL K H a (ns.map V.int) ∧ ns.length ≤ 63 ∧ ∀ H', Q (.bl true) H'
theorem ok_law (G : Txt K mg A) : FnOk P w K mg base CX0 8 A.a_law A.fd_law p_law (spLaw K) := by
  refine G.f_law.ok sc_law (fun vs H Q E h => ?_) (fun cdv A' outer s H vs Q E hr h => ?_)
  · obtain ⟨a, ns, rfl, _⟩ := h
    rfl
  · obtain ⟨a0, ns, rfl, hS, hn, k⟩ := h
    refine ⟨_, (pss_cons (ps_for PassesOwn.never rfl (pi_list (pe_op op_cat (pe_slice sl_list (pv 0) po_none (po_some pe_int)) (pe_lst (pa_cons pe_int pa_nil)))) (pg_name (i := 1) sc_law.nd rfl (Or.inl rfl)) (pss_cons (ps_set (i := 2) sc_law.nd rfl (Or.inl rfl) (pe_call (ok__law_well G) (hr.mono (by decide)) rfl G.g__law_well G.k__law_well G.bi__law_well .nil pass0 (pa_cons (pv 1) pa_nil)))
  (pss_cons (ps_set (i := 3) sc_law.nd rfl (Or.inl rfl) (pe_call (ok__law_one G) (hr.mono (by decide)) rfl G.g__law_one G.k__law_one G.bi__law_one .nil pass0 (pa_cons (pv 2) (pa_cons (pe_lst (pa_cons pe_non (pa_cons pe_int (pa_cons (pe_un un_neg pe_int) (pa_cons pe_str (pa_cons pe_str (pa_cons (pe_tup (pa_cons pe_str (pa_cons pe_str pa_nil))) (pa_cons (pe_cmpR op_eq pe_int pe_int (nomark _)) (pa_cons (pe_lst pa_nil) (pa_cons pe_dnewK (pa_cons (pe_lst (pa_cons pe_non pa_nil)) (pa_cons (pe_op op_pow pe_int pe_int) pa_nil)))))))))))) pa_nil))))
  (pss_cons (ps_set (i := 4) sc_law.nd rfl (Or.inl rfl) (pe_call (ok__law_errors G) (hr.mono (by decide)) rfl G.g__law_errors G.k__law_errors G.bi__law_errors .nil pass0 (pa_cons (pv 3) pa_nil)))
  (pss_cons (ps_set (i := 5) sc_law.nd rfl (Or.inl rfl) (pe_call (ok__law_one G) (hr.mono (by decide)) rfl G.g__law_one G.k__law_one G.bi__law_one .nil pass0 (pa_cons (pv 2) (pa_cons (pe_lst (pa_cons pe_str (pa_cons pe_str (pa_cons pe_str pa_nil)))) pa_nil))))
  (pss_cons (ps_for PassesOwn.never rfl (pi_list (pe_lst (pa_cons (pe_exs PySem.F.excBase_ValueError G.q_NoCharge G.g_NoCharge G.kc_NoCharge rfl (pv 5)) (pa_cons (pe_exs PySem.F.excBase_ValueError G.q_NoRoom G.g_NoRoom G.kc_NoRoom rfl (pv 5)) (pa_cons (pe_exs PySem.F.excBase_ValueError G.q_NoHistory G.g_NoHistory G.kc_NoHistory rfl (pv 5)) pa_nil))))) (pg_name (i := 6) sc_law.nd rfl (Or.inl rfl)) (pss_cons (ps_if (pt_cmpR op_ne (pe_callTy (call_strX (Nat.lt_of_le_of_lt (Nat.add_le_add_left (by decide : 2 ≤ 64) _) (hu64 hr))) (by rfl) G.b_str (by decide +kernel) (pa_cons (pv 6) pa_nil)) (pv 5) (nomark _)) (pss_one (ps_ret pe_bl)) pss_nil)
  (pss_one (ps_expr (pe_bm PySem.F.plainAttrs_list PySem.F.slot_list_append PySem.F.type_list_append mt_append (pv 4) (pa_cons (pe_tup (pa_cons (pv 6) (pa_cons (pv 3) pa_nil))) pa_nil))))))
  (pss_one (ps_for PassesOwn.never rfl (pi_enum rfl G.b_enumerate (pa_cons (pv 4) pa_nil)) (pg_tup rfl (pgs_cons (pg_name (i := 7) sc_law.nd rfl (Or.inr rfl)) (pgs_cons (pg_name (i := 8) sc_law.nd rfl (Or.inl rfl)) pgs_nil))) (pss_cons (ps_asg (pv 8) (pg_tup rfl (pgs_cons (pg_name (i := 6) sc_law.nd rfl (Or.inl rfl)) (pgs_cons (pg_name (i := 9) sc_law.nd rfl (Or.inl rfl)) pgs_nil))))
  (pss_cons (ps_if (PW.pt (pw_or (pt_not (pt_val (pe_callB call_isX (by rfl) G.b_isinstance (by decide +kernel) (pa_cons (pv 6) (pa_cons (pe_glob (v := .ref A.c_PageError) rfl G.g_PageError rfl) pa_nil))))) (pw_or1 (pt_not (pt_val (pe_callB call_isX (by rfl) G.b_isinstance (by decide +kernel) (pa_cons (pv 6) (pa_cons (pe_bltn (v := .ty "ValueError") (u := .type "ValueError") (by rfl) G.b_ValueError (by decide +kernel) rfl) pa_nil)))))))) (pss_one (ps_ret pe_bl)) pss_nil)
  (pss_cons (ps_if (pt_cmpR (op_neD (hu64 hr)) (pe_call (ok__law_kinds G) (hr.mono (by decide)) rfl G.g__law_kinds G.k__law_kinds G.bi__law_kinds .nil pass0 (pa_cons (pv 6) pa_nil)) (pe_lc rfl sc_law.nd (pi_range1 rfl G.b_range (pa_cons pe_int pa_nil)) (blkOk_by (own := [("spot", 10)]) (N := n_law) (sc := defScope s_law) (by decide +kernel)) (fun _ _ _ _ _ => pg_name (i := 10) sc_law.nd rfl (Or.inl rfl)) (fun _ _ _ _ _ => pts_nil) (fun _ _ _ _ _ => pe_cmpR op_eq (pv 7) (pv 10) (nomark _))) (nomark _)) (pss_one (ps_ret pe_bl)) pss_nil)
  (pss_cons (ps_if (PW.pt (pw_or (pt_cmpR (op_neS (hu0 hr)) (pv 9) (pv 3) (nomark _)) (pw_or1 (pt_cmpR op_ne (pe_callB call_isi (by rfl) G.b_isinstance (by decide +kernel) (pa_cons (pv 9) (pa_cons (pe_bltn (v := .ty "bool") (u := .type "bool") (by rfl) G.b_bool (by decide +kernel) rfl) pa_nil))) (pe_callB call_isi (by rfl) G.b_isinstance (by decide +kernel) (pa_cons (pv 3) (pa_cons (pe_bltn (v := .ty "bool") (u := .type "bool") (by rfl) G.b_bool (by decide +kernel) rfl) pa_nil))) (nomark _))))) (pss_one (ps_ret pe_bl)) pss_nil)
  (pss_one (ps_if (pt_val (pe_callB call_isi (by rfl) G.b_isinstance (by decide +kernel) (pa_cons (pv 3) (pa_cons (pe_bltn (v := .ty "list") (u := .type "list") (by rfl) G.b_list (by decide +kernel) rfl) pa_nil)))) (pss_cons (ps_expr (pe_bm PySem.F.plainAttrs_list PySem.F.slot_list_append PySem.F.type_list_append mt_append (pv 3) (pa_cons pe_str pa_nil)))
  (pss_one (ps_if (pt_cmpR (op_neS (hu0 hr)) (pv 9) (pv 3) (nomark _)) (pss_one (ps_ret pe_bl)) pss_nil))) pss_nil))))))))))))))
  (pss_one (ps_ret pe_bl))), ?_⟩
    refine ⟨_, rfl, _, rfl, a0, _, rfl, hS, fun q1 hq1 => ⟨(by show 1 ≤ sizeLine; decide), fun q2 hq2 => ?_⟩⟩
    obtain ⟨ms, hms, hml⟩ : ∃ ms : List Int, cutV (ns.map V.int) none (some 6) = ms.map V.int ∧ ms.length ≤ 63 := by
      refine ⟨(ns.drop (HT.sIx (ns.map V.int).length 0 none)).take (HT.sIx (ns.map V.int).length (ns.map V.int).length (some 6) - HT.sIx (ns.map V.int).length 0 none), ?_, ?_⟩
      · unfold cutV
        rw [List.map_take, List.map_drop]
      · rw [List.length_take, List.length_drop]
        omega
    have u1 : (upd (upd H q1 (.lst (cutV (ns.map V.int) none (some 6)))) q2 (.lst [.int 0])) q1 = some (.lst (ms.map V.int)) := by rw [upd_ne (ne_of_none upd_same hq2), upd_same, hms]
    refine ⟨q1, q2, _, _, rfl, rfl, u1, upd_same, (by rw [List.length_map]; show ms.length + 1 ≤ sizeLine; exact Nat.le_trans (Nat.add_le_add_right hml 1) (by decide)), fun q3 hq3 => ?_⟩
    generalize hHA : upd (upd (upd H q1 (.lst (cutV (ns.map V.int) none (some 6)))) q2 (.lst [.int 0])) q3 (.lst (ms.map V.int ++ [.int 0])) = HA at *
    have lA : HA q3 = some (.lst (ms.map V.int ++ [.int 0])) := by rw [← hHA, upd_same]
    generalize hL : ms.map V.int ++ [.int 0] = L at *
    refine ⟨q3, rfl, ⟨_, SqL.of lA⟩, for_list (K := K) (a := q3) (xs := L)
      (fun _ σ H' => (∃ c1 c2 c3 c4 c5 c6 c7 c8 c9 c10, σ = [some (.ref a0), c1, c2, c3, c4, c5, c6, c7, c8, c9, c10]) ∧ H' q3 = some (.lst L))
      ⟨⟨_, _, _, _, _, _, _, _, _, _, rfl⟩, lA⟩ (fun _ σ H' _ hp => SqL.of hp.2) ?_ ?_⟩
    · rintro _ y σ H0 hy ⟨⟨c1, c2, c3, c4, c5, c6, c7, c8, c9, c10, rfl⟩, l0⟩
      obtain ⟨n, rfl⟩ : ∃ n, y = V.int n := by
        have := List.mem_of_getElem? hy
        rw [← hL] at this
        rcases List.mem_append.mp this with z | z
        · obtain ⟨n, _, rfl⟩ := List.mem_map.mp z
          exact ⟨n, rfl⟩
        · simp at z
          exact ⟨_, z⟩
      refine ⟨_, rfl, n, rfl, fun a H1 ha s1 w1 => ?_⟩
      have lq1 := s1 _ _ l0
      -- thing
      refine ⟨_, rfl, _, rfl, (by show 2 ≤ sizeLine; decide), fun p1 hp1 => ⟨rfl, Nat.zero_le _, fun p2 hp2 => fun p3 hp3 => ⟨(by show 1 ≤ sizeLine; decide), fun p4 hp4 => ⟨_, _, rfl, rfl, ⟨by decide, by decide, by decide⟩, (by show 11 ≤ sizeLine; decide), fun q4 hq4 => ?_⟩⟩⟩⟩
      have sB := (((Same.new (o := .tup [V.str "a", V.str "b"]) hp1).trans (Same.new (o := .lst []) hp2)).trans (Same.new (o := .dK []) hp3)).trans (Same.new (o := .lst [V.non]) hp4)
      have sC := fun o => sB.trans (Same.new (o := o) hq4)
      obtain ⟨xw, hxw⟩ := w1.lst
      have na : ∀ {b : Addr}, H1 b = none → b ≠ a := fun h => (ne_of_none hxw h).symm
      have lft : ∀ {b : Addr} {Hx : Hp}, Same H1 Hx → Hx b = none → H1 b = none := fun {b Hx} sx h => by
        cases e : H1 b with
        | none => rfl
        | some o =>
          have := sx _ _ e
          rw [h] at this
          cases this
      have sp2 := (Same.new (o := .tup [V.str "a", V.str "b"]) hp1)
      have sp3 := sp2.trans (Same.new (o := .lst []) hp2)
      have sp4 := sp3.trans (Same.new (o := .dK []) hp3)
      have h2 := lft sp2 hp2
      have h3 := lft sp3 hp3
      have h4 := lft sp4 hp4
      have h5 := lft sB hq4
      refine ⟨a, q4, _, 0, rfl, upd_same, na h5, (by show 0 < 11; decide), (by show 11 < 1000; decide), w1.same ((sC _ _ _ hxw).trans hxw.symm), by decide, fun v H2 hv f2 w2 => ?_⟩
      have lq2 := f2 _ _ (fun e => by rw [e, ha] at l0; cases l0) (sC _ _ _ lq1)
      have g1 : H2 p1 = some (.tup [V.str "a", V.str "b"]) := f2 _ _ (na hp1) (Same.new hq4 _ _ (Same.new hp4 _ _ (Same.new hp3 _ _ (Same.new hp2 _ _ upd_same))))
      have g2 : H2 p2 = some (.lst []) := f2 _ _ (na h2) (Same.new hq4 _ _ (Same.new hp4 _ _ (Same.new hp3 _ _ upd_same)))
      have g3 : H2 p3 = some (.dK []) := f2 _ _ (na h3) (Same.new hq4 _ _ (Same.new hp4 _ _ upd_same))
      have g4 : H2 p4 = some (.lst [V.non]) := f2 _ _ (na h4) (Same.new hq4 _ _ upd_same)
      have nq : ∀ {b : Addr}, H1 b = none → b ≠ q3 := fun h => (ne_of_none lq1 h).symm
      have any : Thing H2 1 v ∧ v ≠ .ref q3 ∧ v ≠ .ref a := by
        have nr : ∀ {b c : Addr}, b ≠ c → V.ref b ≠ V.ref c := fun z e => z (V.ref.inj e)
        simp only [List.mem_cons, List.not_mem_nil, or_false] at hv
        rcases hv with rfl | rfl | rfl | rfl | rfl | rfl | rfl | rfl | rfl | rfl | rfl
        · exact ⟨.non, by simp, by simp⟩
        · exact ⟨.int _, by simp, by simp⟩
        · exact ⟨.int _, by simp, by simp⟩
        · exact ⟨.str _, by simp, by simp⟩
        · exact ⟨.str _, by simp, by simp⟩
        · exact ⟨.tup g1 rfl, nr (nq hp1), nr (na hp1)⟩
        · exact ⟨.bl _, by simp, by simp⟩
        · exact ⟨.lst g2 rfl (by decide), nr (nq h2), nr (na h2)⟩
        · exact ⟨.dic g3, nr (nq h3), nr (na h3)⟩
        · exact ⟨.lst g4 rfl (by decide), nr (nq h4), nr (na h4)⟩
        · exact ⟨.int _, by simp, by simp⟩
      obtain ⟨th, vq, va⟩ := any
      have naq : q3 ≠ a := fun e => by rw [e, ha] at l0; cases l0
      clear g1 g2 g3 g4 h2 h3 h4 h5 sp2 sp3 sp4 sB sC hv f2 lft nq na hp1 hp2 hp3 hp4 hq4 hxw lq1 s1
      -- rows
      refine ⟨_, rfl, v, rfl, fun l ps H3 s3 hl0 hl rw3 => ?_⟩
      have vl : v ≠ .ref l := fun e => by
        subst e
        cases th with
        | lst e _ _ => rw [hl0] at e; cases e
        | tup e _ => rw [hl0] at e; cases e
        | dic e => rw [hl0] at e; cases e
      obtain ⟨xw, hxw⟩ := w2.lst
      have la : l ≠ a := (ne_of_none hxw hl0).symm
      have Z3 : Z A H3 q3 l L v ps 10 1 := ⟨s3 _ _ lq2, hl, rw3, th.same s3, (ne_of_none lq2 hl0).symm, vq, vl⟩
      have w3 := w2.same ((s3 _ _ hxw).trans hxw.symm)
      clear s3 hl0 hl rw3 th vq vl w2 hxw lq2
      -- text
      refine ⟨_, rfl, (by show 3 ≤ sizeLine; decide), fun q5 hq5 => ?_⟩
      obtain ⟨xw, hxw⟩ := w3.lst
      have s4 := Same.new (o := .lst [V.str "", V.str "no room", V.str "a b"]) hq5
      refine ⟨a, q5, _, 1, rfl, upd_same, (ne_of_none hxw hq5).symm, (by show 0 < 3; decide), (by show 3 < 1000; decide), w3.same ((s4 _ _ hxw).trans hxw.symm), by decide, fun u H4 hu f4 w4 => ?_⟩
      have Z4 := (Z3.same s4).but f4 (s4 _ _ hxw) naq la va
      obtain ⟨x, rfl⟩ : ∃ x, u = V.str x := by
        simp only [List.mem_cons, List.not_mem_nil, or_false] at hu
        rcases hu with rfl | rfl | rfl <;> exact ⟨_, rfl⟩
      clear s4 f4 hu hq5 hxw Z3 w3 w4 va naq la
      -- the three with a text
      refine ⟨_, rfl, x, rfl, fun e1 t1 he1 ht1 ne1 => ⟨_, rfl, x, rfl, fun e2 t2 he2 ht2 ne2 => ⟨_, rfl, x, rfl, fun e3 t3 he3 ht3 ne3 => ⟨(by show 3 ≤ sizeLine; decide), fun q6 hq6 => ?_⟩⟩⟩⟩
      obtain ⟨sa, xa⟩ := txt_new (x := x) (C := A.c_NoCharge) he1 ht1 ne1
      obtain ⟨sb, xb⟩ := txt_new (x := x) (C := A.c_NoRoom) he2 ht2 ne2
      obtain ⟨sc, xc⟩ := txt_new (x := x) (C := A.c_NoHistory) he3 ht3 ne3
      have sd := Same.new (o := .lst [V.ref e1, V.ref e2, V.ref e3]) hq6
      have Z5 := (((Z4.same sa).same sb).same sc).same sd
      have xa := ((xa.same sb).same sc).same sd
      have xb := (xb.same sc).same sd
      have xc := xc.same sd
      have l6 : (upd (upd (upd (upd (upd (upd (upd H4 t1 (.tup [.str x])) e1 (exS e1 A.c_NoCharge t1)) t2 (.tup [.str x])) e2 (exS e2 A.c_NoRoom t2)) t3 (.tup [.str x])) e3 (exS e3 A.c_NoHistory t3)) q6 (.lst [V.ref e1, V.ref e2, V.ref e3])) q6 = some (.lst [V.ref e1, V.ref e2, V.ref e3]) := upd_same
      have lq6 : l ≠ q6 := (ne_of_none (((Z4.same sa).same sb).same sc).hl hq6)
      generalize hH5 : upd (upd (upd (upd (upd (upd (upd H4 t1 (.tup [.str x])) e1 (exS e1 A.c_NoCharge t1)) t2 (.tup [.str x])) e2 (exS e2 A.c_NoRoom t2)) t3 (.tup [.str x])) e3 (exS e3 A.c_NoHistory t3)) q6 (.lst [V.ref e1, V.ref e2, V.ref e3]) = H5 at *
      clear sa sb sc sd hH5 he1 ht1 ne1 he2 ht2 ne2 he3 ht3 ne3 Z4 hq6
      have len10 : ps.length = 10 := Z5.rw.len
      refine ⟨q6, rfl, ⟨_, SqL.of l6⟩, for_list (K := K) (a := q6) (xs := [V.ref e1, V.ref e2, V.ref e3])
        (fun i σ H' => (∃ c6 c7 c8 c9 c10, σ = [some (.ref a0), some (.int n), some (.ref a), some v, some (.ref l), some (.str x), c6, c7, c8, c9, c10]) ∧ (∃ ps', Z A H' q3 l L v ps' (10 + i) 1) ∧
          H' q6 = some (.lst [V.ref e1, V.ref e2, V.ref e3]) ∧ TxtAt H' (.ref e1) A.c_NoCharge x ∧ TxtAt H' (.ref e2) A.c_NoRoom x ∧ TxtAt H' (.ref e3) A.c_NoHistory x)
        ⟨⟨_, _, _, _, _, rfl⟩, ⟨ps, Z5⟩, l6, xa, xb, xc⟩ (fun _ σ H' _ hp => SqL.of hp.2.2.1) ?_ ?_⟩
      · rintro i y σ H6 hy6 ⟨⟨c6, c7, c8, c9, c10, rfl⟩, ⟨ps', Z6⟩, l6, xa, xb, xc⟩
        obtain ⟨C, hC, tx, hs1, hs2⟩ : ∃ C, (cs A)[10 + i]? = some C ∧ TxtAt H6 y C x ∧ PySem.W.findIn K (.ref C) "__str__" = some (some (.builtin "BaseException.__str__")) ∧ PySem.W.subIn K (.ref C) (.type "BaseException") = some true := by
          match i, hy6 with
          | 0, hy6 => cases hy6; exact ⟨_, rfl, xa, G.st_NoCharge, G.i_NoCharge.hs⟩
          | 1, hy6 => cases hy6; exact ⟨_, rfl, xb, G.st_NoRoom, G.i_NoRoom.hs⟩
          | 2, hy6 => cases hy6; exact ⟨_, rfl, xc, G.st_NoHistory, G.i_NoHistory.hs⟩
          | i + 3, hy6 => simp at hy6
        obtain ⟨e, t, rfl, he, ht⟩ := tx
        have i3 : i < 3 := by
          have := (List.getElem?_eq_some_iff.mp hy6).1
          exact this
        refine ⟨_, rfl, e, C, t, x, rfl, he, ht, hs1, hs2, _, rfl, rfl, _, rfl, ?_⟩
        rw [decide_eq_true rfl]
        refine iteF ⟨_, rfl, .inl ⟨rfl, _, SqL.of Z6.hl⟩, _, rfl, _, rfl, (by show 2 ≤ sizeLine; decide), fun p hp => ?_⟩
        have sp := Same.new (o := .tup [V.ref e, v]) hp
        have Z7 := Z6.same sp
        have rowp : RowAt (upd H6 p (.tup [V.ref e, v])) p C v := ⟨e, upd_same, .inr ⟨t, sp _ _ he⟩⟩
        refine ⟨l, _, _, rfl, rfl, Z7.hl, small1000 ?_, ?_⟩
        · have := Z7.rw.len
          rw [List.length_take] at this
          rw [List.length_map]
          omega
        have bl : But l (upd H6 p (.tup [V.ref e, v])) (upd (upd H6 p (.tup [V.ref e, v])) l (.lst (ps'.map V.ref ++ [V.ref p]))) := But.up
        refine ⟨⟨_, _, _, _, _, rfl⟩, ⟨ps' ++ [p], bl _ _ (Ne.symm Z7.lq) Z7.hq, ?_, ?_, Z7.th.but Z7.vl bl, Z7.lq, Z7.vq, Z7.vl⟩, bl _ _ (Ne.symm lq6) (sp _ _ l6), (xa.same sp).but bl Z7.hl, (xb.same sp).but bl Z7.hl, (xc.same sp).but bl Z7.hl⟩
        · rw [List.map_append]
          exact upd_same
        · have et : (cs A).take (10 + (i + 1)) = (cs A).take (10 + i) ++ [C] := by
            rw [show 10 + (i + 1) = (10 + i) + 1 by omega, List.take_succ, hC]
            rfl
          rw [et]
          obtain ⟨ee, r1, r2⟩ := rowp
          exact (Z7.rw.but bl Z7.hl).snoc ⟨ee, bl _ _ (ne_of r1 Z7.hl (by intro z; cases z)) r1, r2.but bl Z7.hl⟩
      · rintro σ H6 ⟨⟨c6, c7, c8, c9, c10, rfl⟩, ⟨ps', Z6⟩, _⟩
        clear l6 xa xb xc Z5 len10 lq6
        have Z7 : Z A H6 q3 l L v ps' 13 1 := Z6
        clear Z6
        have len13 : ps'.length = 13 := Z7.rw.len
        refine ⟨_, rfl, l, _, rfl, SqL.of Z7.hl, for_it walk_enum (fun i σ H' => (∃ c6 c7 c8 c9 c10, σ = [some (.ref a0), some (.int n), some (.ref a), some v, some (.ref l), some (.str x), c6, c7, c8, c9, c10]) ∧ Z A H' q3 l L v ps' 13 (1 + i))
          ⟨⟨_, _, _, _, _, rfl⟩, Z7⟩ (fun i σ H' _ hp => SqL.of hp.2.hl) ?_ ?_⟩
        · rintro i y σ H7 H8 hi ⟨⟨c6, c7, c8, c9, c10, rfl⟩, Z8⟩ ⟨T, x0, y0, rfl, hT, rfl, hx0, hy0⟩
          cases hx0
          obtain ⟨p, hp, rfl⟩ : ∃ p, ps'[i]? = some p ∧ y0 = V.ref p := by
            have hy0 : (List.map V.ref ps')[i]? = some y0 := hy0
            rw [List.getElem?_map] at hy0
            cases hz : ps'[i]? with
            | none => rw [hz] at hy0; cases hy0
            | some p => rw [hz] at hy0; cases hy0; exact ⟨p, rfl, rfl⟩
          have Z9 := Z8.same (Same.new (o := .tup [V.int (i : Nat), V.ref p]) hT)
          obtain ⟨C, hC, e, hrow, hea⟩ := Z9.rw.get hp
          have hC' : (cs A)[i]? = some C := hC
          have EC := excs G (List.mem_of_getElem? hC')
          refine ⟨T, _, rfl, SqT.of upd_same, rfl, _, _, rfl, _, _, rfl, rfl, ?_⟩
          refine ⟨_, rfl, p, _, rfl, SqT.of hrow, rfl, _, _, rfl, _, _, rfl, rfl, ?_⟩
          refine ⟨_, rfl, e, C, _, _, true, rfl, .own _, hea, EC, kitUp_at G.kP hC', _, rfl, ?_⟩
          refine iteF ⟨_, rfl, e, C, _, _, true, rfl, .ty _, hea, EC, kitUp_at G.kV hC', _, rfl, iteF ?_⟩
          refine ⟨_, rfl, e, C, i, rfl, hC', hea, fun lk H9 s9 hk => ?_⟩
          refine ⟨13, rfl, by decide, by decide, fun D hD => lc_range (lo := 0) (n := 13) (fun j Hx => Same H9 Hx ∧ Hx D = some (.lst ((List.range j).map fun j => V.bl (i == j)))) ⟨Same.new hD, upd_same⟩ ?_ ?_⟩
          · rintro j Hx hj ⟨sx, dx⟩
            refine ⟨rfl, ?_⟩
            refine iteT (B := True) ?_
            refine ⟨_, rfl, _, rfl, rfl, _, dx, small1000 (by rw [List.length_map, List.length_range]; omega), fun b o e => ?_, ?_⟩
            · rw [upd_ne (ne_of_none e hD)]
              exact sx _ _ e
            · rw [upd_same, List.range_succ, List.map_append]
              have e : decide (V.int ((i : Nat) : Int) = V.int ((0 : Int) + (j : Nat))) = (i == j) := by
                rw [Bool.eq_iff_iff]
                simp
                omega
              show some (HO.lst (_ ++ [V.bl (decide (V.int ((i : Nat) : Int) = V.int ((0 : Int) + (j : Nat))))])) = _
              rw [e]
              rfl
          · rintro Hx ⟨sx, dx⟩
            have Z10 := (Z9.same s9).same sx
            have ek : kinds i = ((List.range 13).map fun j => (i == j)).map V.bl := by
              unfold kinds
              rw [List.map_map]
              rfl
            have d1 : Hx lk = some (.lst (((List.range 13).map fun j => (i == j)).map V.bl)) := by rw [← ek]; exact sx _ _ hk
            have d2 : Hx D = some (.lst (((List.range 13).map fun j => (i == j)).map V.bl)) := by rw [← ek]; exact dx
            refine ⟨_, _, .lst (SqL.of d1) (dp_bools _), .lst (SqL.of d2) (dp_bools _), shaped_bools _, shaped_bools _, _, rfl, ?_⟩
            rw [eqv_bools]
            refine iteF ?_
            refine ⟨_, rfl, _, rfl, rfl, Z10.th.own, _, rfl, iteF ?_⟩
            obtain ⟨ty, h1, h2, bl, h3, h4⟩ := Z10.th.ty (K := K)
            refine ⟨_, rfl, v, .ty "bool", .type ty, .type "bool", _, rfl, .ty "bool", h1, h2, _, rfl, v, .ty "bool", .type ty, .type "bool", _, rfl, .ty "bool", h1, h2, rfl, _, rfl, ?_⟩
            rw [decide_eq_true rfl]
            refine iteF ⟨_, rfl, v, .ty "list", .type ty, .type "list", bl, rfl, .ty "list", h1, h3, _, rfl, ?_⟩
            cases bl with
            | false => exact iteF ⟨⟨_, _, _, _, _, rfl⟩, Z10.hq, Z10.hl, Z10.rw, Z10.th.mono (by omega), Z10.lq, Z10.vq, Z10.vl⟩
            | true =>
              obtain ⟨b, xs, rfl, hb, hf, hlen⟩ := h4 rfl
              have hi13 : i < 13 := by rw [List.length_map, len13] at hi; exact hi
              refine iteT ⟨_, rfl, .inl ⟨rfl, _, SqL.of hb⟩, b, _, _, rfl, rfl, hb, small1000 (by omega), ?_⟩
              have bb : But b Hx (upd Hx b (.lst (xs ++ [V.str "more"]))) := But.up
              have Z11 : Z A (upd Hx b (.lst (xs ++ [V.str "more"]))) q3 l L (.ref b) ps' 13 (1 + (i + 1)) :=
                ⟨bb _ _ (fun e => Z10.vq (by rw [e])) Z10.hq, bb _ _ (fun e => Z10.vl (by rw [e])) Z10.hl, Z10.rw.but bb hb, .lst upd_same (by rw [List.all_append, hf]; rfl) (by rw [List.length_append]; show xs.length + 1 ≤ _; omega), Z10.lq, Z10.vq, Z10.vl⟩
              exact ⟨_, rfl, _, rfl, rfl, Z11.th.own, _, rfl, iteF ⟨⟨_, _, _, _, _, rfl⟩, Z11⟩⟩
        · rintro σ H7 ⟨⟨c6, c7, c8, c9, c10, rfl⟩, Z8⟩
          exact ⟨⟨_, _, _, _, _, _, _, _, _, _, rfl⟩, Z8.hq⟩
    · rintro σ H' ⟨⟨c1, c2, c3, c4, c5, c6, c7, c8, c9, c10, rfl⟩, l0⟩
      exact k _
end
end My

set_option Elab.async false
set_option linter.all false
set_option maxRecDepth 100000
set_option maxHeartbeats 4000000
namespace My
open PySem L2
theorem all_mk {K : PySem.W.Frag} {h : Heap} {mg : Str → Option Value} (X : K.In h) (G : h.Ns mainGlobals mg)
    {f__law_well : Addr} {od__law_well an__law_well : Option Addr} {sl__law_well : Array (Option Value)} {oc__law_well dc__law_well pm__law_well ct__law_well : Value} {cd__law_well : Value}
    {kV__law_well : Value}
    {f__law_draw : Addr} {od__law_draw an__law_draw : Option Addr} {sl__law_draw : Array (Option Value)} {oc__law_draw dc__law_draw pm__law_draw ct__law_draw : Value} {cd__law_draw : Value}
    {kV__law_draw : Value}
    {f__law_one : Addr} {od__law_one an__law_one : Option Addr} {sl__law_one : Array (Option Value)} {oc__law_one dc__law_one pm__law_one ct__law_one : Value} {cd__law_one : Value}
    {kV__law_one : Value}
    {f__law_errors : Addr} {od__law_errors an__law_errors : Option Addr} {sl__law_errors : Array (Option Value)} {oc__law_errors dc__law_errors pm__law_errors ct__law_errors : Value} {cd__law_errors : Value}
    {kV__law_errors : Value}
    {f__law_kinds : Addr} {od__law_kinds an__law_kinds : Option Addr} {sl__law_kinds : Array (Option Value)} {oc__law_kinds dc__law_kinds pm__law_kinds ct__law_kinds : Value} {cd__law_kinds : Value}
    {kV__law_kinds : Value}
    {f_law : Addr} {od_law an_law : Option Addr} {sl_law : Array (Option Value)} {oc_law dc_law pm_law ct_law : Value} {cd_law : Value}
    {kV_law : Value}
    {C_NoSystem : Addr}
    {C_NoProcess : Addr}
    {C_NoPages : Addr}
    {C_NotMapped : Addr}
    {C_NoRight : Addr}
    {C_PastEnd : Addr}
    {C_NoFile : Addr}
    {C_Taken : Addr}
    {C_NoLock : Addr}
    {C_NoStep : Addr}
    {C_NoCharge : Addr}
    {C_NoRoom : Addr}
    {C_NoHistory : Addr}
    {C_PageError : Addr}
    {f_NoSystem_init : Addr} {od_NoSystem_init an_NoSystem_init : Option Addr} {sl_NoSystem_init : Array (Option Value)} {oc_NoSystem_init dc_NoSystem_init pm_NoSystem_init ct_NoSystem_init : Value} {cd_NoSystem_init : Value}
    {kV_NoSystem_init : Value}
    {f_NoProcess_init : Addr} {od_NoProcess_init an_NoProcess_init : Option Addr} {sl_NoProcess_init : Array (Option Value)} {oc_NoProcess_init dc_NoProcess_init pm_NoProcess_init ct_NoProcess_init : Value} {cd_NoProcess_init : Value}
    {kV_NoProcess_init : Value}
    {f_NoPages_init : Addr} {od_NoPages_init an_NoPages_init : Option Addr} {sl_NoPages_init : Array (Option Value)} {oc_NoPages_init dc_NoPages_init pm_NoPages_init ct_NoPages_init : Value} {cd_NoPages_init : Value}
    {kV_NoPages_init : Value}
    {f_NotMapped_init : Addr} {od_NotMapped_init an_NotMapped_init : Option Addr} {sl_NotMapped_init : Array (Option Value)} {oc_NotMapped_init dc_NotMapped_init pm_NotMapped_init ct_NotMapped_init : Value} {cd_NotMapped_init : Value}
    {kV_NotMapped_init : Value}
    {f_NoRight_init : Addr} {od_NoRight_init an_NoRight_init : Option Addr} {sl_NoRight_init : Array (Option Value)} {oc_NoRight_init dc_NoRight_init pm_NoRight_init ct_NoRight_init : Value} {cd_NoRight_init : Value}
    {kV_NoRight_init : Value}
    {f_PastEnd_init : Addr} {od_PastEnd_init an_PastEnd_init : Option Addr} {sl_PastEnd_init : Array (Option Value)} {oc_PastEnd_init dc_PastEnd_init pm_PastEnd_init ct_PastEnd_init : Value} {cd_PastEnd_init : Value}
    {kV_PastEnd_init : Value}
    {f_NoFile_init : Addr} {od_NoFile_init an_NoFile_init : Option Addr} {sl_NoFile_init : Array (Option Value)} {oc_NoFile_init dc_NoFile_init pm_NoFile_init ct_NoFile_init : Value} {cd_NoFile_init : Value}
    {kV_NoFile_init : Value}
    {f_Taken_init : Addr} {od_Taken_init an_Taken_init : Option Addr} {sl_Taken_init : Array (Option Value)} {oc_Taken_init dc_Taken_init pm_Taken_init ct_Taken_init : Value} {cd_Taken_init : Value}
    {kV_Taken_init : Value}
    {f_NoLock_init : Addr} {od_NoLock_init an_NoLock_init : Option Addr} {sl_NoLock_init : Array (Option Value)} {oc_NoLock_init dc_NoLock_init pm_NoLock_init ct_NoLock_init : Value} {cd_NoLock_init : Value}
    {kV_NoLock_init : Value}
    {f_NoStep_init : Addr} {od_NoStep_init an_NoStep_init : Option Addr} {sl_NoStep_init : Array (Option Value)} {oc_NoStep_init dc_NoStep_init pm_NoStep_init ct_NoStep_init : Value} {cd_NoStep_init : Value}
    {kV_NoStep_init : Value}
    {nm_NoSystem q_NoSystem : Str} {N_NoSystem : Addr} {bs_NoSystem bm_NoSystem sub_NoSystem : List Value} {sn_NoSystem : List Str} {ab_NoSystem : Bool} {col_NoSystem : Option Bool} {dd_NoSystem : Option Addr} {m0_NoSystem m1_NoSystem m2_NoSystem m3_NoSystem m5_NoSystem : Option Value}
    {nm_NoProcess q_NoProcess : Str} {N_NoProcess : Addr} {bs_NoProcess bm_NoProcess sub_NoProcess : List Value} {sn_NoProcess : List Str} {ab_NoProcess : Bool} {col_NoProcess : Option Bool} {dd_NoProcess : Option Addr} {m0_NoProcess m1_NoProcess m2_NoProcess m3_NoProcess m5_NoProcess : Option Value}
    {nm_NoPages q_NoPages : Str} {N_NoPages : Addr} {bs_NoPages bm_NoPages sub_NoPages : List Value} {sn_NoPages : List Str} {ab_NoPages : Bool} {col_NoPages : Option Bool} {dd_NoPages : Option Addr} {m0_NoPages m1_NoPages m2_NoPages m3_NoPages m5_NoPages : Option Value}
    {nm_NotMapped q_NotMapped : Str} {N_NotMapped : Addr} {bs_NotMapped bm_NotMapped sub_NotMapped : List Value} {sn_NotMapped : List Str} {ab_NotMapped : Bool} {col_NotMapped : Option Bool} {dd_NotMapped : Option Addr} {m0_NotMapped m1_NotMapped m2_NotMapped m3_NotMapped m5_NotMapped : Option Value}
    {nm_NoRight q_NoRight : Str} {N_NoRight : Addr} {bs_NoRight bm_NoRight sub_NoRight : List Value} {sn_NoRight : List Str} {ab_NoRight : Bool} {col_NoRight : Option Bool} {dd_NoRight : Option Addr} {m0_NoRight m1_NoRight m2_NoRight m3_NoRight m5_NoRight : Option Value}
    {nm_PastEnd q_PastEnd : Str} {N_PastEnd : Addr} {bs_PastEnd bm_PastEnd sub_PastEnd : List Value} {sn_PastEnd : List Str} {ab_PastEnd : Bool} {col_PastEnd : Option Bool} {dd_PastEnd : Option Addr} {m0_PastEnd m1_PastEnd m2_PastEnd m3_PastEnd m5_PastEnd : Option Value}
    {nm_NoFile q_NoFile : Str} {N_NoFile : Addr} {bs_NoFile bm_NoFile sub_NoFile : List Value} {sn_NoFile : List Str} {ab_NoFile : Bool} {col_NoFile : Option Bool} {dd_NoFile : Option Addr} {m0_NoFile m1_NoFile m2_NoFile m3_NoFile m5_NoFile : Option Value}
    {nm_Taken q_Taken : Str} {N_Taken : Addr} {bs_Taken bm_Taken sub_Taken : List Value} {sn_Taken : List Str} {ab_Taken : Bool} {col_Taken : Option Bool} {dd_Taken : Option Addr} {m0_Taken m1_Taken m2_Taken m3_Taken m5_Taken : Option Value}
    {nm_NoLock q_NoLock : Str} {N_NoLock : Addr} {bs_NoLock bm_NoLock sub_NoLock : List Value} {sn_NoLock : List Str} {ab_NoLock : Bool} {col_NoLock : Option Bool} {dd_NoLock : Option Addr} {m0_NoLock m1_NoLock m2_NoLock m3_NoLock m5_NoLock : Option Value}
    {nm_NoStep q_NoStep : Str} {N_NoStep : Addr} {bs_NoStep bm_NoStep sub_NoStep : List Value} {sn_NoStep : List Str} {ab_NoStep : Bool} {col_NoStep : Option Bool} {dd_NoStep : Option Addr} {m0_NoStep m1_NoStep m2_NoStep m3_NoStep m5_NoStep : Option Value}
    {nm_NoCharge q_NoCharge : Str} {N_NoCharge : Addr} {bs_NoCharge bm_NoCharge sub_NoCharge : List Value} {sn_NoCharge : List Str} {ab_NoCharge : Bool} {col_NoCharge : Option Bool} {dd_NoCharge : Option Addr} {m0_NoCharge m1_NoCharge m2_NoCharge m3_NoCharge m5_NoCharge : Option Value}
    {nm_NoRoom q_NoRoom : Str} {N_NoRoom : Addr} {bs_NoRoom bm_NoRoom sub_NoRoom : List Value} {sn_NoRoom : List Str} {ab_NoRoom : Bool} {col_NoRoom : Option Bool} {dd_NoRoom : Option Addr} {m0_NoRoom m1_NoRoom m2_NoRoom m3_NoRoom m5_NoRoom : Option Value}
    {nm_NoHistory q_NoHistory : Str} {N_NoHistory : Addr} {bs_NoHistory bm_NoHistory sub_NoHistory : List Value} {sn_NoHistory : List Str} {ab_NoHistory : Bool} {col_NoHistory : Option Bool} {dd_NoHistory : Option Addr} {m0_NoHistory m1_NoHistory m2_NoHistory m3_NoHistory m5_NoHistory : Option Value}
    {nm_PageError q_PageError : Str} {N_PageError : Addr} {bs_PageError bm_PageError sub_PageError : List Value} {sn_PageError : List Str} {ab_PageError : Bool} {col_PageError : Option Bool} {dd_PageError : Option Addr} {m0_PageError m1_PageError m2_PageError m3_PageError m5_PageError : Option Value}
    (h__law_well : PySem.W.nsIn K mainGlobals "_law_well" = some (some (.ref f__law_well)))
    (l__law_well : K.lookup f__law_well = some ⟨oc__law_well, od__law_well, .func (PySem.W.fnOf "_law_well" "_law_well" (defArgs s__law_well) (defBody s__law_well) (defScope s__law_well) .none kV__law_well dc__law_well pm__law_well an__law_well cd__law_well ct__law_well), sl__law_well⟩)
    (c__law_well : PySem.W.codeIn K cd__law_well "_law_well" = true)
    (k__law_well : PySem.W.keepIn K (.ref f__law_well) = true)
    (h__law_draw : PySem.W.nsIn K mainGlobals "_law_draw" = some (some (.ref f__law_draw)))
    (l__law_draw : K.lookup f__law_draw = some ⟨oc__law_draw, od__law_draw, .func (PySem.W.fnOf "_law_draw" "_law_draw" (defArgs s__law_draw) (defBody s__law_draw) (defScope s__law_draw) .none kV__law_draw dc__law_draw pm__law_draw an__law_draw cd__law_draw ct__law_draw), sl__law_draw⟩)
    (c__law_draw : PySem.W.codeIn K cd__law_draw "_law_draw" = true)
    (k__law_draw : PySem.W.keepIn K (.ref f__law_draw) = true)
    (h__law_one : PySem.W.nsIn K mainGlobals "_law_one" = some (some (.ref f__law_one)))
    (l__law_one : K.lookup f__law_one = some ⟨oc__law_one, od__law_one, .func (PySem.W.fnOf "_law_one" "_law_one" (defArgs s__law_one) (defBody s__law_one) (defScope s__law_one) .none kV__law_one dc__law_one pm__law_one an__law_one cd__law_one ct__law_one), sl__law_one⟩)
    (c__law_one : PySem.W.codeIn K cd__law_one "_law_one" = true)
    (k__law_one : PySem.W.keepIn K (.ref f__law_one) = true)
    (h__law_errors : PySem.W.nsIn K mainGlobals "_law_errors" = some (some (.ref f__law_errors)))
    (l__law_errors : K.lookup f__law_errors = some ⟨oc__law_errors, od__law_errors, .func (PySem.W.fnOf "_law_errors" "_law_errors" (defArgs s__law_errors) (defBody s__law_errors) (defScope s__law_errors) .none kV__law_errors dc__law_errors pm__law_errors an__law_errors cd__law_errors ct__law_errors), sl__law_errors⟩)
    (c__law_errors : PySem.W.codeIn K cd__law_errors "_law_errors" = true)
    (k__law_errors : PySem.W.keepIn K (.ref f__law_errors) = true)
    (h__law_kinds : PySem.W.nsIn K mainGlobals "_law_kinds" = some (some (.ref f__law_kinds)))
    (l__law_kinds : K.lookup f__law_kinds = some ⟨oc__law_kinds, od__law_kinds, .func (PySem.W.fnOf "_law_kinds" "_law_kinds" (defArgs s__law_kinds) (defBody s__law_kinds) (defScope s__law_kinds) .none kV__law_kinds dc__law_kinds pm__law_kinds an__law_kinds cd__law_kinds ct__law_kinds), sl__law_kinds⟩)
    (c__law_kinds : PySem.W.codeIn K cd__law_kinds "_law_kinds" = true)
    (k__law_kinds : PySem.W.keepIn K (.ref f__law_kinds) = true)
    (h_law : PySem.W.nsIn K mainGlobals "law" = some (some (.ref f_law)))
    (l_law : K.lookup f_law = some ⟨oc_law, od_law, .func (PySem.W.fnOf "law" "law" (defArgs s_law) (defBody s_law) (defScope s_law) .none kV_law dc_law pm_law an_law cd_law ct_law), sl_law⟩)
    (c_law : PySem.W.codeIn K cd_law "law" = true)
    (k_law : PySem.W.keepIn K (.ref f_law) = true)
    (h_NoSystem : PySem.W.nsIn K mainGlobals "NoSystem" = some (some (.ref C_NoSystem)))
    (h_NoProcess : PySem.W.nsIn K mainGlobals "NoProcess" = some (some (.ref C_NoProcess)))
    (h_NoPages : PySem.W.nsIn K mainGlobals "NoPages" = some (some (.ref C_NoPages)))
    (h_NotMapped : PySem.W.nsIn K mainGlobals "NotMapped" = some (some (.ref C_NotMapped)))
    (h_NoRight : PySem.W.nsIn K mainGlobals "NoRight" = some (some (.ref C_NoRight)))
    (h_PastEnd : PySem.W.nsIn K mainGlobals "PastEnd" = some (some (.ref C_PastEnd)))
    (h_NoFile : PySem.W.nsIn K mainGlobals "NoFile" = some (some (.ref C_NoFile)))
    (h_Taken : PySem.W.nsIn K mainGlobals "Taken" = some (some (.ref C_Taken)))
    (h_NoLock : PySem.W.nsIn K mainGlobals "NoLock" = some (some (.ref C_NoLock)))
    (h_NoStep : PySem.W.nsIn K mainGlobals "NoStep" = some (some (.ref C_NoStep)))
    (h_NoCharge : PySem.W.nsIn K mainGlobals "NoCharge" = some (some (.ref C_NoCharge)))
    (h_NoRoom : PySem.W.nsIn K mainGlobals "NoRoom" = some (some (.ref C_NoRoom)))
    (h_NoHistory : PySem.W.nsIn K mainGlobals "NoHistory" = some (some (.ref C_NoHistory)))
    (h_PageError : PySem.W.nsIn K mainGlobals "PageError" = some (some (.ref C_PageError)))
    (h_NoSystem_init : PySem.W.findIn K (.ref C_NoSystem) "__init__" = some (some (.ref f_NoSystem_init)))
    (l_NoSystem_init : K.lookup f_NoSystem_init = some ⟨oc_NoSystem_init, od_NoSystem_init, .func (PySem.W.fnOf "__init__" "NoSystem.__init__" (defArgs s_NoSystem_init) (defBody s_NoSystem_init) (defScope s_NoSystem_init) .none kV_NoSystem_init dc_NoSystem_init pm_NoSystem_init an_NoSystem_init cd_NoSystem_init ct_NoSystem_init), sl_NoSystem_init⟩)
    (c_NoSystem_init : PySem.W.codeIn K cd_NoSystem_init "NoSystem.__init__" = true)
    (k_NoSystem_init : PySem.W.keepIn K (.ref f_NoSystem_init) = true)
    (h_NoProcess_init : PySem.W.findIn K (.ref C_NoProcess) "__init__" = some (some (.ref f_NoProcess_init)))
    (l_NoProcess_init : K.lookup f_NoProcess_init = some ⟨oc_NoProcess_init, od_NoProcess_init, .func (PySem.W.fnOf "__init__" "NoProcess.__init__" (defArgs s_NoProcess_init) (defBody s_NoProcess_init) (defScope s_NoProcess_init) .none kV_NoProcess_init dc_NoProcess_init pm_NoProcess_init an_NoProcess_init cd_NoProcess_init ct_NoProcess_init), sl_NoProcess_init⟩)
    (c_NoProcess_init : PySem.W.codeIn K cd_NoProcess_init "NoProcess.__init__" = true)
    (k_NoProcess_init : PySem.W.keepIn K (.ref f_NoProcess_init) = true)
    (h_NoPages_init : PySem.W.findIn K (.ref C_NoPages) "__init__" = some (some (.ref f_NoPages_init)))
    (l_NoPages_init : K.lookup f_NoPages_init = some ⟨oc_NoPages_init, od_NoPages_init, .func (PySem.W.fnOf "__init__" "NoPages.__init__" (defArgs s_NoPages_init) (defBody s_NoPages_init) (defScope s_NoPages_init) .none kV_NoPages_init dc_NoPages_init pm_NoPages_init an_NoPages_init cd_NoPages_init ct_NoPages_init), sl_NoPages_init⟩)
    (c_NoPages_init : PySem.W.codeIn K cd_NoPages_init "NoPages.__init__" = true)
    (k_NoPages_init : PySem.W.keepIn K (.ref f_NoPages_init) = true)
    (h_NotMapped_init : PySem.W.findIn K (.ref C_NotMapped) "__init__" = some (some (.ref f_NotMapped_init)))
    (l_NotMapped_init : K.lookup f_NotMapped_init = some ⟨oc_NotMapped_init, od_NotMapped_init, .func (PySem.W.fnOf "__init__" "NotMapped.__init__" (defArgs s_NotMapped_init) (defBody s_NotMapped_init) (defScope s_NotMapped_init) .none kV_NotMapped_init dc_NotMapped_init pm_NotMapped_init an_NotMapped_init cd_NotMapped_init ct_NotMapped_init), sl_NotMapped_init⟩)
    (c_NotMapped_init : PySem.W.codeIn K cd_NotMapped_init "NotMapped.__init__" = true)
    (k_NotMapped_init : PySem.W.keepIn K (.ref f_NotMapped_init) = true)
    (h_NoRight_init : PySem.W.findIn K (.ref C_NoRight) "__init__" = some (some (.ref f_NoRight_init)))
    (l_NoRight_init : K.lookup f_NoRight_init = some ⟨oc_NoRight_init, od_NoRight_init, .func (PySem.W.fnOf "__init__" "NoRight.__init__" (defArgs s_NoRight_init) (defBody s_NoRight_init) (defScope s_NoRight_init) .none kV_NoRight_init dc_NoRight_init pm_NoRight_init an_NoRight_init cd_NoRight_init ct_NoRight_init), sl_NoRight_init⟩)
    (c_NoRight_init : PySem.W.codeIn K cd_NoRight_init "NoRight.__init__" = true)
    (k_NoRight_init : PySem.W.keepIn K (.ref f_NoRight_init) = true)
    (h_PastEnd_init : PySem.W.findIn K (.ref C_PastEnd) "__init__" = some (some (.ref f_PastEnd_init)))
    (l_PastEnd_init : K.lookup f_PastEnd_init = some ⟨oc_PastEnd_init, od_PastEnd_init, .func (PySem.W.fnOf "__init__" "PastEnd.__init__" (defArgs s_PastEnd_init) (defBody s_PastEnd_init) (defScope s_PastEnd_init) .none kV_PastEnd_init dc_PastEnd_init pm_PastEnd_init an_PastEnd_init cd_PastEnd_init ct_PastEnd_init), sl_PastEnd_init⟩)
    (c_PastEnd_init : PySem.W.codeIn K cd_PastEnd_init "PastEnd.__init__" = true)
    (k_PastEnd_init : PySem.W.keepIn K (.ref f_PastEnd_init) = true)
    (h_NoFile_init : PySem.W.findIn K (.ref C_NoFile) "__init__" = some (some (.ref f_NoFile_init)))
    (l_NoFile_init : K.lookup f_NoFile_init = some ⟨oc_NoFile_init, od_NoFile_init, .func (PySem.W.fnOf "__init__" "NoFile.__init__" (defArgs s_NoFile_init) (defBody s_NoFile_init) (defScope s_NoFile_init) .none kV_NoFile_init dc_NoFile_init pm_NoFile_init an_NoFile_init cd_NoFile_init ct_NoFile_init), sl_NoFile_init⟩)
    (c_NoFile_init : PySem.W.codeIn K cd_NoFile_init "NoFile.__init__" = true)
    (k_NoFile_init : PySem.W.keepIn K (.ref f_NoFile_init) = true)
    (h_Taken_init : PySem.W.findIn K (.ref C_Taken) "__init__" = some (some (.ref f_Taken_init)))
    (l_Taken_init : K.lookup f_Taken_init = some ⟨oc_Taken_init, od_Taken_init, .func (PySem.W.fnOf "__init__" "Taken.__init__" (defArgs s_Taken_init) (defBody s_Taken_init) (defScope s_Taken_init) .none kV_Taken_init dc_Taken_init pm_Taken_init an_Taken_init cd_Taken_init ct_Taken_init), sl_Taken_init⟩)
    (c_Taken_init : PySem.W.codeIn K cd_Taken_init "Taken.__init__" = true)
    (k_Taken_init : PySem.W.keepIn K (.ref f_Taken_init) = true)
    (h_NoLock_init : PySem.W.findIn K (.ref C_NoLock) "__init__" = some (some (.ref f_NoLock_init)))
    (l_NoLock_init : K.lookup f_NoLock_init = some ⟨oc_NoLock_init, od_NoLock_init, .func (PySem.W.fnOf "__init__" "NoLock.__init__" (defArgs s_NoLock_init) (defBody s_NoLock_init) (defScope s_NoLock_init) .none kV_NoLock_init dc_NoLock_init pm_NoLock_init an_NoLock_init cd_NoLock_init ct_NoLock_init), sl_NoLock_init⟩)
    (c_NoLock_init : PySem.W.codeIn K cd_NoLock_init "NoLock.__init__" = true)
    (k_NoLock_init : PySem.W.keepIn K (.ref f_NoLock_init) = true)
    (h_NoStep_init : PySem.W.findIn K (.ref C_NoStep) "__init__" = some (some (.ref f_NoStep_init)))
    (l_NoStep_init : K.lookup f_NoStep_init = some ⟨oc_NoStep_init, od_NoStep_init, .func (PySem.W.fnOf "__init__" "NoStep.__init__" (defArgs s_NoStep_init) (defBody s_NoStep_init) (defScope s_NoStep_init) .none kV_NoStep_init dc_NoStep_init pm_NoStep_init an_NoStep_init cd_NoStep_init ct_NoStep_init), sl_NoStep_init⟩)
    (c_NoStep_init : PySem.W.codeIn K cd_NoStep_init "NoStep.__init__" = true)
    (k_NoStep_init : PySem.W.keepIn K (.ref f_NoStep_init) = true)
    (xL_NoSystem : K.lookup C_NoSystem = some (excClassObj nm_NoSystem q_NoSystem C_NoSystem N_NoSystem bs_NoSystem bm_NoSystem true sn_NoSystem sub_NoSystem ab_NoSystem col_NoSystem dd_NoSystem m0_NoSystem m1_NoSystem m2_NoSystem m3_NoSystem m5_NoSystem "ValueError.__new__"))
    (xR_NoSystem : PySem.HandSPX.refsVE bm_NoSystem = true)
    (xS_NoSystem : PySem.W.findIn K (.ref C_NoSystem) "__setattr__" = some (some (.builtin "object.__setattr__")))
    (xE_NoSystem : PySem.W.subIn K (.ref C_NoSystem) (.type "BaseException") = some true)
    (xT_NoSystem : PySem.W.typeIn K (.ref C_NoSystem) = some (.type "type"))
    (xK_NoSystem : PySem.W.keepIn K (.ref C_NoSystem) = true)
    (xG_NoSystem : PySem.W.findIn K (.ref C_NoSystem) "__getattribute__" = some (some (.builtin "BaseException.__getattribute__")))
    (xH_NoSystem : PySem.W.findIn K (.ref C_NoSystem) "__getattr__" = some none)
    (xD_NoSystem : PySem.W.hasDictIn K C_NoSystem = true)
    (xC_NoSystem : PySem.W.isClsIn K C_NoSystem = true)
    (xN_NoSystem : PySem.W.findIn K (.ref C_NoSystem) "part" = some none)
    (xi_NoSystem : PySem.W.typeIn K (.ref f_NoSystem_init) = some (.type "function"))
    (xL_NoProcess : K.lookup C_NoProcess = some (excClassObj nm_NoProcess q_NoProcess C_NoProcess N_NoProcess bs_NoProcess bm_NoProcess true sn_NoProcess sub_NoProcess ab_NoProcess col_NoProcess dd_NoProcess m0_NoProcess m1_NoProcess m2_NoProcess m3_NoProcess m5_NoProcess "ValueError.__new__"))
    (xR_NoProcess : PySem.HandSPX.refsVE bm_NoProcess = true)
    (xS_NoProcess : PySem.W.findIn K (.ref C_NoProcess) "__setattr__" = some (some (.builtin "object.__setattr__")))
    (xE_NoProcess : PySem.W.subIn K (.ref C_NoProcess) (.type "BaseException") = some true)
    (xT_NoProcess : PySem.W.typeIn K (.ref C_NoProcess) = some (.type "type"))
    (xK_NoProcess : PySem.W.keepIn K (.ref C_NoProcess) = true)
    (xG_NoProcess : PySem.W.findIn K (.ref C_NoProcess) "__getattribute__" = some (some (.builtin "BaseException.__getattribute__")))
    (xH_NoProcess : PySem.W.findIn K (.ref C_NoProcess) "__getattr__" = some none)
    (xD_NoProcess : PySem.W.hasDictIn K C_NoProcess = true)
    (xC_NoProcess : PySem.W.isClsIn K C_NoProcess = true)
    (xN_NoProcess : PySem.W.findIn K (.ref C_NoProcess) "process" = some none)
    (xi_NoProcess : PySem.W.typeIn K (.ref f_NoProcess_init) = some (.type "function"))
    (xL_NoPages : K.lookup C_NoPages = some (excClassObj nm_NoPages q_NoPages C_NoPages N_NoPages bs_NoPages bm_NoPages true sn_NoPages sub_NoPages ab_NoPages col_NoPages dd_NoPages m0_NoPages m1_NoPages m2_NoPages m3_NoPages m5_NoPages "ValueError.__new__"))
    (xR_NoPages : PySem.HandSPX.refsVE bm_NoPages = true)
    (xS_NoPages : PySem.W.findIn K (.ref C_NoPages) "__setattr__" = some (some (.builtin "object.__setattr__")))
    (xE_NoPages : PySem.W.subIn K (.ref C_NoPages) (.type "BaseException") = some true)
    (xT_NoPages : PySem.W.typeIn K (.ref C_NoPages) = some (.type "type"))
    (xK_NoPages : PySem.W.keepIn K (.ref C_NoPages) = true)
    (xG_NoPages : PySem.W.findIn K (.ref C_NoPages) "__getattribute__" = some (some (.builtin "BaseException.__getattribute__")))
    (xH_NoPages : PySem.W.findIn K (.ref C_NoPages) "__getattr__" = some none)
    (xD_NoPages : PySem.W.hasDictIn K C_NoPages = true)
    (xC_NoPages : PySem.W.isClsIn K C_NoPages = true)
    (xN_NoPages : PySem.W.findIn K (.ref C_NoPages) "part" = some none)
    (xi_NoPages : PySem.W.typeIn K (.ref f_NoPages_init) = some (.type "function"))
    (xL_NotMapped : K.lookup C_NotMapped = some (excClassObj nm_NotMapped q_NotMapped C_NotMapped N_NotMapped bs_NotMapped bm_NotMapped true sn_NotMapped sub_NotMapped ab_NotMapped col_NotMapped dd_NotMapped m0_NotMapped m1_NotMapped m2_NotMapped m3_NotMapped m5_NotMapped "ValueError.__new__"))
    (xR_NotMapped : PySem.HandSPX.refsVE bm_NotMapped = true)
    (xS_NotMapped : PySem.W.findIn K (.ref C_NotMapped) "__setattr__" = some (some (.builtin "object.__setattr__")))
    (xE_NotMapped : PySem.W.subIn K (.ref C_NotMapped) (.type "BaseException") = some true)
    (xT_NotMapped : PySem.W.typeIn K (.ref C_NotMapped) = some (.type "type"))
    (xK_NotMapped : PySem.W.keepIn K (.ref C_NotMapped) = true)
    (xG_NotMapped : PySem.W.findIn K (.ref C_NotMapped) "__getattribute__" = some (some (.builtin "BaseException.__getattribute__")))
    (xH_NotMapped : PySem.W.findIn K (.ref C_NotMapped) "__getattr__" = some none)
    (xD_NotMapped : PySem.W.hasDictIn K C_NotMapped = true)
    (xC_NotMapped : PySem.W.isClsIn K C_NotMapped = true)
    (xN_NotMapped : PySem.W.findIn K (.ref C_NotMapped) "page" = some none)
    (xi_NotMapped : PySem.W.typeIn K (.ref f_NotMapped_init) = some (.type "function"))
    (xL_NoRight : K.lookup C_NoRight = some (excClassObj nm_NoRight q_NoRight C_NoRight N_NoRight bs_NoRight bm_NoRight true sn_NoRight sub_NoRight ab_NoRight col_NoRight dd_NoRight m0_NoRight m1_NoRight m2_NoRight m3_NoRight m5_NoRight "ValueError.__new__"))
    (xR_NoRight : PySem.HandSPX.refsVE bm_NoRight = true)
    (xS_NoRight : PySem.W.findIn K (.ref C_NoRight) "__setattr__" = some (some (.builtin "object.__setattr__")))
    (xE_NoRight : PySem.W.subIn K (.ref C_NoRight) (.type "BaseException") = some true)
    (xT_NoRight : PySem.W.typeIn K (.ref C_NoRight) = some (.type "type"))
    (xK_NoRight : PySem.W.keepIn K (.ref C_NoRight) = true)
    (xG_NoRight : PySem.W.findIn K (.ref C_NoRight) "__getattribute__" = some (some (.builtin "BaseException.__getattribute__")))
    (xH_NoRight : PySem.W.findIn K (.ref C_NoRight) "__getattr__" = some none)
    (xD_NoRight : PySem.W.hasDictIn K C_NoRight = true)
    (xC_NoRight : PySem.W.isClsIn K C_NoRight = true)
    (xN_NoRight : PySem.W.findIn K (.ref C_NoRight) "page" = some none)
    (xi_NoRight : PySem.W.typeIn K (.ref f_NoRight_init) = some (.type "function"))
    (xL_PastEnd : K.lookup C_PastEnd = some (excClassObj nm_PastEnd q_PastEnd C_PastEnd N_PastEnd bs_PastEnd bm_PastEnd true sn_PastEnd sub_PastEnd ab_PastEnd col_PastEnd dd_PastEnd m0_PastEnd m1_PastEnd m2_PastEnd m3_PastEnd m5_PastEnd "ValueError.__new__"))
    (xR_PastEnd : PySem.HandSPX.refsVE bm_PastEnd = true)
    (xS_PastEnd : PySem.W.findIn K (.ref C_PastEnd) "__setattr__" = some (some (.builtin "object.__setattr__")))
    (xE_PastEnd : PySem.W.subIn K (.ref C_PastEnd) (.type "BaseException") = some true)
    (xT_PastEnd : PySem.W.typeIn K (.ref C_PastEnd) = some (.type "type"))
    (xK_PastEnd : PySem.W.keepIn K (.ref C_PastEnd) = true)
    (xG_PastEnd : PySem.W.findIn K (.ref C_PastEnd) "__getattribute__" = some (some (.builtin "BaseException.__getattribute__")))
    (xH_PastEnd : PySem.W.findIn K (.ref C_PastEnd) "__getattr__" = some none)
    (xD_PastEnd : PySem.W.hasDictIn K C_PastEnd = true)
    (xC_PastEnd : PySem.W.isClsIn K C_PastEnd = true)
    (xN_PastEnd : PySem.W.findIn K (.ref C_PastEnd) "page" = some none)
    (xi_PastEnd : PySem.W.typeIn K (.ref f_PastEnd_init) = some (.type "function"))
    (xL_NoFile : K.lookup C_NoFile = some (excClassObj nm_NoFile q_NoFile C_NoFile N_NoFile bs_NoFile bm_NoFile true sn_NoFile sub_NoFile ab_NoFile col_NoFile dd_NoFile m0_NoFile m1_NoFile m2_NoFile m3_NoFile m5_NoFile "ValueError.__new__"))
    (xR_NoFile : PySem.HandSPX.refsVE bm_NoFile = true)
    (xS_NoFile : PySem.W.findIn K (.ref C_NoFile) "__setattr__" = some (some (.builtin "object.__setattr__")))
    (xE_NoFile : PySem.W.subIn K (.ref C_NoFile) (.type "BaseException") = some true)
    (xT_NoFile : PySem.W.typeIn K (.ref C_NoFile) = some (.type "type"))
    (xK_NoFile : PySem.W.keepIn K (.ref C_NoFile) = true)
    (xG_NoFile : PySem.W.findIn K (.ref C_NoFile) "__getattribute__" = some (some (.builtin "BaseException.__getattribute__")))
    (xH_NoFile : PySem.W.findIn K (.ref C_NoFile) "__getattr__" = some none)
    (xD_NoFile : PySem.W.hasDictIn K C_NoFile = true)
    (xC_NoFile : PySem.W.isClsIn K C_NoFile = true)
    (xN_NoFile : PySem.W.findIn K (.ref C_NoFile) "name" = some none)
    (xi_NoFile : PySem.W.typeIn K (.ref f_NoFile_init) = some (.type "function"))
    (xL_Taken : K.lookup C_Taken = some (excClassObj nm_Taken q_Taken C_Taken N_Taken bs_Taken bm_Taken true sn_Taken sub_Taken ab_Taken col_Taken dd_Taken m0_Taken m1_Taken m2_Taken m3_Taken m5_Taken "ValueError.__new__"))
    (xR_Taken : PySem.HandSPX.refsVE bm_Taken = true)
    (xS_Taken : PySem.W.findIn K (.ref C_Taken) "__setattr__" = some (some (.builtin "object.__setattr__")))
    (xE_Taken : PySem.W.subIn K (.ref C_Taken) (.type "BaseException") = some true)
    (xT_Taken : PySem.W.typeIn K (.ref C_Taken) = some (.type "type"))
    (xK_Taken : PySem.W.keepIn K (.ref C_Taken) = true)
    (xG_Taken : PySem.W.findIn K (.ref C_Taken) "__getattribute__" = some (some (.builtin "BaseException.__getattribute__")))
    (xH_Taken : PySem.W.findIn K (.ref C_Taken) "__getattr__" = some none)
    (xD_Taken : PySem.W.hasDictIn K C_Taken = true)
    (xC_Taken : PySem.W.isClsIn K C_Taken = true)
    (xN_Taken : PySem.W.findIn K (.ref C_Taken) "name" = some none)
    (xi_Taken : PySem.W.typeIn K (.ref f_Taken_init) = some (.type "function"))
    (xL_NoLock : K.lookup C_NoLock = some (excClassObj nm_NoLock q_NoLock C_NoLock N_NoLock bs_NoLock bm_NoLock true sn_NoLock sub_NoLock ab_NoLock col_NoLock dd_NoLock m0_NoLock m1_NoLock m2_NoLock m3_NoLock m5_NoLock "ValueError.__new__"))
    (xR_NoLock : PySem.HandSPX.refsVE bm_NoLock = true)
    (xS_NoLock : PySem.W.findIn K (.ref C_NoLock) "__setattr__" = some (some (.builtin "object.__setattr__")))
    (xE_NoLock : PySem.W.subIn K (.ref C_NoLock) (.type "BaseException") = some true)
    (xT_NoLock : PySem.W.typeIn K (.ref C_NoLock) = some (.type "type"))
    (xK_NoLock : PySem.W.keepIn K (.ref C_NoLock) = true)
    (xG_NoLock : PySem.W.findIn K (.ref C_NoLock) "__getattribute__" = some (some (.builtin "BaseException.__getattribute__")))
    (xH_NoLock : PySem.W.findIn K (.ref C_NoLock) "__getattr__" = some none)
    (xD_NoLock : PySem.W.hasDictIn K C_NoLock = true)
    (xC_NoLock : PySem.W.isClsIn K C_NoLock = true)
    (xN_NoLock : PySem.W.findIn K (.ref C_NoLock) "page" = some none)
    (xi_NoLock : PySem.W.typeIn K (.ref f_NoLock_init) = some (.type "function"))
    (xL_NoStep : K.lookup C_NoStep = some (excClassObj nm_NoStep q_NoStep C_NoStep N_NoStep bs_NoStep bm_NoStep true sn_NoStep sub_NoStep ab_NoStep col_NoStep dd_NoStep m0_NoStep m1_NoStep m2_NoStep m3_NoStep m5_NoStep "ValueError.__new__"))
    (xR_NoStep : PySem.HandSPX.refsVE bm_NoStep = true)
    (xS_NoStep : PySem.W.findIn K (.ref C_NoStep) "__setattr__" = some (some (.builtin "object.__setattr__")))
    (xE_NoStep : PySem.W.subIn K (.ref C_NoStep) (.type "BaseException") = some true)
    (xT_NoStep : PySem.W.typeIn K (.ref C_NoStep) = some (.type "type"))
    (xK_NoStep : PySem.W.keepIn K (.ref C_NoStep) = true)
    (xG_NoStep : PySem.W.findIn K (.ref C_NoStep) "__getattribute__" = some (some (.builtin "BaseException.__getattribute__")))
    (xH_NoStep : PySem.W.findIn K (.ref C_NoStep) "__getattr__" = some none)
    (xD_NoStep : PySem.W.hasDictIn K C_NoStep = true)
    (xC_NoStep : PySem.W.isClsIn K C_NoStep = true)
    (xN_NoStep : PySem.W.findIn K (.ref C_NoStep) "at" = some none)
    (xi_NoStep : PySem.W.typeIn K (.ref f_NoStep_init) = some (.type "function"))
    (xL_NoCharge : K.lookup C_NoCharge = some (excClassObj nm_NoCharge q_NoCharge C_NoCharge N_NoCharge bs_NoCharge bm_NoCharge true sn_NoCharge sub_NoCharge ab_NoCharge col_NoCharge dd_NoCharge m0_NoCharge m1_NoCharge m2_NoCharge m3_NoCharge m5_NoCharge "ValueError.__new__"))
    (xR_NoCharge : PySem.HandSPX.refsVE bm_NoCharge = true)
    (xS_NoCharge : PySem.W.findIn K (.ref C_NoCharge) "__setattr__" = some (some (.builtin "object.__setattr__")))
    (xE_NoCharge : PySem.W.subIn K (.ref C_NoCharge) (.type "BaseException") = some true)
    (xT_NoCharge : PySem.W.typeIn K (.ref C_NoCharge) = some (.type "type"))
    (xK_NoCharge : PySem.W.keepIn K (.ref C_NoCharge) = true)
    (xG_NoCharge : PySem.W.findIn K (.ref C_NoCharge) "__getattribute__" = some (some (.builtin "BaseException.__getattribute__")))
    (xH_NoCharge : PySem.W.findIn K (.ref C_NoCharge) "__getattr__" = some none)
    (xD_NoCharge : PySem.W.hasDictIn K C_NoCharge = true)
    (xC_NoCharge : PySem.W.isClsIn K C_NoCharge = true)
    (xL_NoRoom : K.lookup C_NoRoom = some (excClassObj nm_NoRoom q_NoRoom C_NoRoom N_NoRoom bs_NoRoom bm_NoRoom true sn_NoRoom sub_NoRoom ab_NoRoom col_NoRoom dd_NoRoom m0_NoRoom m1_NoRoom m2_NoRoom m3_NoRoom m5_NoRoom "ValueError.__new__"))
    (xR_NoRoom : PySem.HandSPX.refsVE bm_NoRoom = true)
    (xS_NoRoom : PySem.W.findIn K (.ref C_NoRoom) "__setattr__" = some (some (.builtin "object.__setattr__")))
    (xE_NoRoom : PySem.W.subIn K (.ref C_NoRoom) (.type "BaseException") = some true)
    (xT_NoRoom : PySem.W.typeIn K (.ref C_NoRoom) = some (.type "type"))
    (xK_NoRoom : PySem.W.keepIn K (.ref C_NoRoom) = true)
    (xG_NoRoom : PySem.W.findIn K (.ref C_NoRoom) "__getattribute__" = some (some (.builtin "BaseException.__getattribute__")))
    (xH_NoRoom : PySem.W.findIn K (.ref C_NoRoom) "__getattr__" = some none)
    (xD_NoRoom : PySem.W.hasDictIn K C_NoRoom = true)
    (xC_NoRoom : PySem.W.isClsIn K C_NoRoom = true)
    (xL_NoHistory : K.lookup C_NoHistory = some (excClassObj nm_NoHistory q_NoHistory C_NoHistory N_NoHistory bs_NoHistory bm_NoHistory true sn_NoHistory sub_NoHistory ab_NoHistory col_NoHistory dd_NoHistory m0_NoHistory m1_NoHistory m2_NoHistory m3_NoHistory m5_NoHistory "ValueError.__new__"))
    (xR_NoHistory : PySem.HandSPX.refsVE bm_NoHistory = true)
    (xS_NoHistory : PySem.W.findIn K (.ref C_NoHistory) "__setattr__" = some (some (.builtin "object.__setattr__")))
    (xE_NoHistory : PySem.W.subIn K (.ref C_NoHistory) (.type "BaseException") = some true)
    (xT_NoHistory : PySem.W.typeIn K (.ref C_NoHistory) = some (.type "type"))
    (xK_NoHistory : PySem.W.keepIn K (.ref C_NoHistory) = true)
    (xG_NoHistory : PySem.W.findIn K (.ref C_NoHistory) "__getattribute__" = some (some (.builtin "BaseException.__getattribute__")))
    (xH_NoHistory : PySem.W.findIn K (.ref C_NoHistory) "__getattr__" = some none)
    (xD_NoHistory : PySem.W.hasDictIn K C_NoHistory = true)
    (xC_NoHistory : PySem.W.isClsIn K C_NoHistory = true)
    (xL_PageError : K.lookup C_PageError = some (excClassObj nm_PageError q_PageError C_PageError N_PageError bs_PageError bm_PageError true sn_PageError sub_PageError ab_PageError col_PageError dd_PageError m0_PageError m1_PageError m2_PageError m3_PageError m5_PageError "ValueError.__new__"))
    (xR_PageError : PySem.HandSPX.refsVE bm_PageError = true)
    (xS_PageError : PySem.W.findIn K (.ref C_PageError) "__setattr__" = some (some (.builtin "object.__setattr__")))
    (xE_PageError : PySem.W.subIn K (.ref C_PageError) (.type "BaseException") = some true)
    (xT_PageError : PySem.W.typeIn K (.ref C_PageError) = some (.type "type"))
    (xK_PageError : PySem.W.keepIn K (.ref C_PageError) = true)
    (xG_PageError : PySem.W.findIn K (.ref C_PageError) "__getattribute__" = some (some (.builtin "BaseException.__getattribute__")))
    (xH_PageError : PySem.W.findIn K (.ref C_PageError) "__getattr__" = some none)
    (xD_PageError : PySem.W.hasDictIn K C_PageError = true)
    (xC_PageError : PySem.W.isClsIn K C_PageError = true)
    (b_int : PySem.W.nsIn K mainGlobals "int" = some none)
    (b_len : PySem.W.nsIn K mainGlobals "len" = some none)
    (b_isinstance : PySem.W.nsIn K mainGlobals "isinstance" = some none)
    (b_bool : PySem.W.nsIn K mainGlobals "bool" = some none)
    (b_str : PySem.W.nsIn K mainGlobals "str" = some none)
    (b_list : PySem.W.nsIn K mainGlobals "list" = some none)
    (b_range : PySem.W.nsIn K mainGlobals "range" = some none)
    (b_enumerate : PySem.W.nsIn K mainGlobals "enumerate" = some none)
    (b_ValueError : PySem.W.nsIn K mainGlobals "ValueError" = some none)
    (sN : PySem.W.specialIn K (.builtin "object.__class__") "__get__" = some (some (.builtin "getset_descriptor.__get__")))
    (sT : PySem.W.takesIn K (.builtin "object.__class__") = some true)
    (xA_NoSystem : PySem.W.findIn K (.ref C_NoSystem) "__class__" = some (some (.builtin "object.__class__")))
    (xM_NoSystem : PySem.W.mroIn K C_NoSystem (.type "object") = some true)
    (xA_NoProcess : PySem.W.findIn K (.ref C_NoProcess) "__class__" = some (some (.builtin "object.__class__")))
    (xM_NoProcess : PySem.W.mroIn K C_NoProcess (.type "object") = some true)
    (xA_NoPages : PySem.W.findIn K (.ref C_NoPages) "__class__" = some (some (.builtin "object.__class__")))
    (xM_NoPages : PySem.W.mroIn K C_NoPages (.type "object") = some true)
    (xA_NotMapped : PySem.W.findIn K (.ref C_NotMapped) "__class__" = some (some (.builtin "object.__class__")))
    (xM_NotMapped : PySem.W.mroIn K C_NotMapped (.type "object") = some true)
    (xA_NoRight : PySem.W.findIn K (.ref C_NoRight) "__class__" = some (some (.builtin "object.__class__")))
    (xM_NoRight : PySem.W.mroIn K C_NoRight (.type "object") = some true)
    (xA_PastEnd : PySem.W.findIn K (.ref C_PastEnd) "__class__" = some (some (.builtin "object.__class__")))
    (xM_PastEnd : PySem.W.mroIn K C_PastEnd (.type "object") = some true)
    (xA_NoFile : PySem.W.findIn K (.ref C_NoFile) "__class__" = some (some (.builtin "object.__class__")))
    (xM_NoFile : PySem.W.mroIn K C_NoFile (.type "object") = some true)
    (xA_Taken : PySem.W.findIn K (.ref C_Taken) "__class__" = some (some (.builtin "object.__class__")))
    (xM_Taken : PySem.W.mroIn K C_Taken (.type "object") = some true)
    (xA_NoLock : PySem.W.findIn K (.ref C_NoLock) "__class__" = some (some (.builtin "object.__class__")))
    (xM_NoLock : PySem.W.mroIn K C_NoLock (.type "object") = some true)
    (xA_NoStep : PySem.W.findIn K (.ref C_NoStep) "__class__" = some (some (.builtin "object.__class__")))
    (xM_NoStep : PySem.W.mroIn K C_NoStep (.type "object") = some true)
    (xA_NoCharge : PySem.W.findIn K (.ref C_NoCharge) "__class__" = some (some (.builtin "object.__class__")))
    (xM_NoCharge : PySem.W.mroIn K C_NoCharge (.type "object") = some true)
    (xQ_NoCharge : PySem.W.excIn K C_NoCharge [.type "ValueError", .type "Exception", .type "BaseException", .type "object"] "ValueError.__new__" = true)
    (xP_NoCharge : PySem.W.findIn K (.ref C_NoCharge) "__str__" = some (some (.builtin "BaseException.__str__")))
    (xA_NoRoom : PySem.W.findIn K (.ref C_NoRoom) "__class__" = some (some (.builtin "object.__class__")))
    (xM_NoRoom : PySem.W.mroIn K C_NoRoom (.type "object") = some true)
    (xQ_NoRoom : PySem.W.excIn K C_NoRoom [.type "ValueError", .type "Exception", .type "BaseException", .type "object"] "ValueError.__new__" = true)
    (xP_NoRoom : PySem.W.findIn K (.ref C_NoRoom) "__str__" = some (some (.builtin "BaseException.__str__")))
    (xA_NoHistory : PySem.W.findIn K (.ref C_NoHistory) "__class__" = some (some (.builtin "object.__class__")))
    (xM_NoHistory : PySem.W.mroIn K C_NoHistory (.type "object") = some true)
    (xQ_NoHistory : PySem.W.excIn K C_NoHistory [.type "ValueError", .type "Exception", .type "BaseException", .type "object"] "ValueError.__new__" = true)
    (xP_NoHistory : PySem.W.findIn K (.ref C_NoHistory) "__str__" = some (some (.builtin "BaseException.__str__")))
    (kA : kitAll K [C_NoSystem, C_NoProcess, C_NoPages, C_NotMapped, C_NoRight, C_PastEnd, C_NoFile, C_Taken, C_NoLock, C_NoStep, C_NoCharge, C_NoRoom, C_NoHistory] = true)
    (kP : kitUp K [C_NoSystem, C_NoProcess, C_NoPages, C_NotMapped, C_NoRight, C_PastEnd, C_NoFile, C_Taken, C_NoLock, C_NoStep, C_NoCharge, C_NoRoom, C_NoHistory] (.ref C_PageError) = true)
    (kV : kitUp K [C_NoSystem, C_NoProcess, C_NoPages, C_NotMapped, C_NoRight, C_PastEnd, C_NoFile, C_Taken, C_NoLock, C_NoStep, C_NoCharge, C_NoRoom, C_NoHistory] (.type "ValueError") = true) :
    Txt K mg { a__law_well := f__law_well, fd__law_well := PySem.W.fnOf "_law_well" "_law_well" (defArgs s__law_well) (defBody s__law_well) (defScope s__law_well) .none kV__law_well dc__law_well pm__law_well an__law_well cd__law_well ct__law_well, a__law_draw := f__law_draw, fd__law_draw := PySem.W.fnOf "_law_draw" "_law_draw" (defArgs s__law_draw) (defBody s__law_draw) (defScope s__law_draw) .none kV__law_draw dc__law_draw pm__law_draw an__law_draw cd__law_draw ct__law_draw, a__law_one := f__law_one, fd__law_one := PySem.W.fnOf "_law_one" "_law_one" (defArgs s__law_one) (defBody s__law_one) (defScope s__law_one) .none kV__law_one dc__law_one pm__law_one an__law_one cd__law_one ct__law_one, a__law_errors := f__law_errors, fd__law_errors := PySem.W.fnOf "_law_errors" "_law_errors" (defArgs s__law_errors) (defBody s__law_errors) (defScope s__law_errors) .none kV__law_errors dc__law_errors pm__law_errors an__law_errors cd__law_errors ct__law_errors, a__law_kinds := f__law_kinds, fd__law_kinds := PySem.W.fnOf "_law_kinds" "_law_kinds" (defArgs s__law_kinds) (defBody s__law_kinds) (defScope s__law_kinds) .none kV__law_kinds dc__law_kinds pm__law_kinds an__law_kinds cd__law_kinds ct__law_kinds, a_law := f_law, fd_law := PySem.W.fnOf "law" "law" (defArgs s_law) (defBody s_law) (defScope s_law) .none kV_law dc_law pm_law an_law cd_law ct_law, c_NoSystem := C_NoSystem, c_NoProcess := C_NoProcess, c_NoPages := C_NoPages, c_NotMapped := C_NotMapped, c_NoRight := C_NoRight, c_PastEnd := C_PastEnd, c_NoFile := C_NoFile, c_Taken := C_Taken, c_NoLock := C_NoLock, c_NoStep := C_NoStep, c_NoCharge := C_NoCharge, c_NoRoom := C_NoRoom, c_NoHistory := C_NoHistory, c_PageError := C_PageError, a_NoSystem_init := f_NoSystem_init, fd_NoSystem_init := PySem.W.fnOf "__init__" "NoSystem.__init__" (defArgs s_NoSystem_init) (defBody s_NoSystem_init) (defScope s_NoSystem_init) .none kV_NoSystem_init dc_NoSystem_init pm_NoSystem_init an_NoSystem_init cd_NoSystem_init ct_NoSystem_init, a_NoProcess_init := f_NoProcess_init, fd_NoProcess_init := PySem.W.fnOf "__init__" "NoProcess.__init__" (defArgs s_NoProcess_init) (defBody s_NoProcess_init) (defScope s_NoProcess_init) .none kV_NoProcess_init dc_NoProcess_init pm_NoProcess_init an_NoProcess_init cd_NoProcess_init ct_NoProcess_init, a_NoPages_init := f_NoPages_init, fd_NoPages_init := PySem.W.fnOf "__init__" "NoPages.__init__" (defArgs s_NoPages_init) (defBody s_NoPages_init) (defScope s_NoPages_init) .none kV_NoPages_init dc_NoPages_init pm_NoPages_init an_NoPages_init cd_NoPages_init ct_NoPages_init, a_NotMapped_init := f_NotMapped_init, fd_NotMapped_init := PySem.W.fnOf "__init__" "NotMapped.__init__" (defArgs s_NotMapped_init) (defBody s_NotMapped_init) (defScope s_NotMapped_init) .none kV_NotMapped_init dc_NotMapped_init pm_NotMapped_init an_NotMapped_init cd_NotMapped_init ct_NotMapped_init, a_NoRight_init := f_NoRight_init, fd_NoRight_init := PySem.W.fnOf "__init__" "NoRight.__init__" (defArgs s_NoRight_init) (defBody s_NoRight_init) (defScope s_NoRight_init) .none kV_NoRight_init dc_NoRight_init pm_NoRight_init an_NoRight_init cd_NoRight_init ct_NoRight_init, a_PastEnd_init := f_PastEnd_init, fd_PastEnd_init := PySem.W.fnOf "__init__" "PastEnd.__init__" (defArgs s_PastEnd_init) (defBody s_PastEnd_init) (defScope s_PastEnd_init) .none kV_PastEnd_init dc_PastEnd_init pm_PastEnd_init an_PastEnd_init cd_PastEnd_init ct_PastEnd_init, a_NoFile_init := f_NoFile_init, fd_NoFile_init := PySem.W.fnOf "__init__" "NoFile.__init__" (defArgs s_NoFile_init) (defBody s_NoFile_init) (defScope s_NoFile_init) .none kV_NoFile_init dc_NoFile_init pm_NoFile_init an_NoFile_init cd_NoFile_init ct_NoFile_init, a_Taken_init := f_Taken_init, fd_Taken_init := PySem.W.fnOf "__init__" "Taken.__init__" (defArgs s_Taken_init) (defBody s_Taken_init) (defScope s_Taken_init) .none kV_Taken_init dc_Taken_init pm_Taken_init an_Taken_init cd_Taken_init ct_Taken_init, a_NoLock_init := f_NoLock_init, fd_NoLock_init := PySem.W.fnOf "__init__" "NoLock.__init__" (defArgs s_NoLock_init) (defBody s_NoLock_init) (defScope s_NoLock_init) .none kV_NoLock_init dc_NoLock_init pm_NoLock_init an_NoLock_init cd_NoLock_init ct_NoLock_init, a_NoStep_init := f_NoStep_init, fd_NoStep_init := PySem.W.fnOf "__init__" "NoStep.__init__" (defArgs s_NoStep_init) (defBody s_NoStep_init) (defScope s_NoStep_init) .none kV_NoStep_init dc_NoStep_init pm_NoStep_init an_NoStep_init cd_NoStep_init ct_NoStep_init } := {
    f__law_well := fun_mk (st := s__law_well) l__law_well c__law_well k__law_well
    bi__law_well := (fun_mk (st := s__law_well) l__law_well c__law_well k__law_well).binds (ps := p__law_well) fun _ _ _ _ _ _ us hl => match us, hl with | [_], _ => rfl
    g__law_well := PySem.W.mg_of X G h__law_well
    k__law_well := k__law_well
    f__law_draw := fun_mk (st := s__law_draw) l__law_draw c__law_draw k__law_draw
    bi__law_draw := (fun_mk (st := s__law_draw) l__law_draw c__law_draw k__law_draw).binds (ps := p__law_draw) fun _ _ _ _ _ _ us hl => match us, hl with | [_, _], _ => rfl
    g__law_draw := PySem.W.mg_of X G h__law_draw
    k__law_draw := k__law_draw
    f__law_one := fun_mk (st := s__law_one) l__law_one c__law_one k__law_one
    bi__law_one := (fun_mk (st := s__law_one) l__law_one c__law_one k__law_one).binds (ps := p__law_one) fun _ _ _ _ _ _ us hl => match us, hl with | [_, _], _ => rfl
    g__law_one := PySem.W.mg_of X G h__law_one
    k__law_one := k__law_one
    f__law_errors := fun_mk (st := s__law_errors) l__law_errors c__law_errors k__law_errors
    bi__law_errors := (fun_mk (st := s__law_errors) l__law_errors c__law_errors k__law_errors).binds (ps := p__law_errors) fun _ _ _ _ _ _ us hl => match us, hl with | [_], _ => rfl
    g__law_errors := PySem.W.mg_of X G h__law_errors
    k__law_errors := k__law_errors
    f__law_kinds := fun_mk (st := s__law_kinds) l__law_kinds c__law_kinds k__law_kinds
    bi__law_kinds := (fun_mk (st := s__law_kinds) l__law_kinds c__law_kinds k__law_kinds).binds (ps := p__law_kinds) fun _ _ _ _ _ _ us hl => match us, hl with | [_], _ => rfl
    g__law_kinds := PySem.W.mg_of X G h__law_kinds
    k__law_kinds := k__law_kinds
    f_law := fun_mk (st := s_law) l_law c_law k_law
    bi_law := (fun_mk (st := s_law) l_law c_law k_law).binds (ps := p_law) fun _ _ _ _ _ _ us hl => match us, hl with | [_], _ => rfl
    g_law := PySem.W.mg_of X G h_law
    k_law := k_law
    g_NoSystem := PySem.W.mg_of X G h_NoSystem
    g_NoProcess := PySem.W.mg_of X G h_NoProcess
    g_NoPages := PySem.W.mg_of X G h_NoPages
    g_NotMapped := PySem.W.mg_of X G h_NotMapped
    g_NoRight := PySem.W.mg_of X G h_NoRight
    g_PastEnd := PySem.W.mg_of X G h_PastEnd
    g_NoFile := PySem.W.mg_of X G h_NoFile
    g_Taken := PySem.W.mg_of X G h_Taken
    g_NoLock := PySem.W.mg_of X G h_NoLock
    g_NoStep := PySem.W.mg_of X G h_NoStep
    g_NoCharge := PySem.W.mg_of X G h_NoCharge
    g_NoRoom := PySem.W.mg_of X G h_NoRoom
    g_NoHistory := PySem.W.mg_of X G h_NoHistory
    g_PageError := PySem.W.mg_of X G h_PageError
    f_NoSystem_init := fun_mk (st := s_NoSystem_init) l_NoSystem_init c_NoSystem_init k_NoSystem_init
    bi_NoSystem_init := (fun_mk (st := s_NoSystem_init) l_NoSystem_init c_NoSystem_init k_NoSystem_init).binds (ps := p_NoSystem_init) fun _ _ _ _ _ _ us hl => match us, hl with | [_, _], _ => rfl
    f_NoProcess_init := fun_mk (st := s_NoProcess_init) l_NoProcess_init c_NoProcess_init k_NoProcess_init
    bi_NoProcess_init := (fun_mk (st := s_NoProcess_init) l_NoProcess_init c_NoProcess_init k_NoProcess_init).binds (ps := p_NoProcess_init) fun _ _ _ _ _ _ us hl => match us, hl with | [_, _], _ => rfl
    f_NoPages_init := fun_mk (st := s_NoPages_init) l_NoPages_init c_NoPages_init k_NoPages_init
    bi_NoPages_init := (fun_mk (st := s_NoPages_init) l_NoPages_init c_NoPages_init k_NoPages_init).binds (ps := p_NoPages_init) fun _ _ _ _ _ _ us hl => match us, hl with | [_, _], _ => rfl
    f_NotMapped_init := fun_mk (st := s_NotMapped_init) l_NotMapped_init c_NotMapped_init k_NotMapped_init
    bi_NotMapped_init := (fun_mk (st := s_NotMapped_init) l_NotMapped_init c_NotMapped_init k_NotMapped_init).binds (ps := p_NotMapped_init) fun _ _ _ _ _ _ us hl => match us, hl with | [_, _], _ => rfl
    f_NoRight_init := fun_mk (st := s_NoRight_init) l_NoRight_init c_NoRight_init k_NoRight_init
    bi_NoRight_init := (fun_mk (st := s_NoRight_init) l_NoRight_init c_NoRight_init k_NoRight_init).binds (ps := p_NoRight_init) fun _ _ _ _ _ _ us hl => match us, hl with | [_, _], _ => rfl
    f_PastEnd_init := fun_mk (st := s_PastEnd_init) l_PastEnd_init c_PastEnd_init k_PastEnd_init
    bi_PastEnd_init := (fun_mk (st := s_PastEnd_init) l_PastEnd_init c_PastEnd_init k_PastEnd_init).binds (ps := p_PastEnd_init) fun _ _ _ _ _ _ us hl => match us, hl with | [_, _], _ => rfl
    f_NoFile_init := fun_mk (st := s_NoFile_init) l_NoFile_init c_NoFile_init k_NoFile_init
    bi_NoFile_init := (fun_mk (st := s_NoFile_init) l_NoFile_init c_NoFile_init k_NoFile_init).binds (ps := p_NoFile_init) fun _ _ _ _ _ _ us hl => match us, hl with | [_, _], _ => rfl
    f_Taken_init := fun_mk (st := s_Taken_init) l_Taken_init c_Taken_init k_Taken_init
    bi_Taken_init := (fun_mk (st := s_Taken_init) l_Taken_init c_Taken_init k_Taken_init).binds (ps := p_Taken_init) fun _ _ _ _ _ _ us hl => match us, hl with | [_, _], _ => rfl
    f_NoLock_init := fun_mk (st := s_NoLock_init) l_NoLock_init c_NoLock_init k_NoLock_init
    bi_NoLock_init := (fun_mk (st := s_NoLock_init) l_NoLock_init c_NoLock_init k_NoLock_init).binds (ps := p_NoLock_init) fun _ _ _ _ _ _ us hl => match us, hl with | [_, _], _ => rfl
    f_NoStep_init := fun_mk (st := s_NoStep_init) l_NoStep_init c_NoStep_init k_NoStep_init
    bi_NoStep_init := (fun_mk (st := s_NoStep_init) l_NoStep_init c_NoStep_init k_NoStep_init).binds (ps := p_NoStep_init) fun _ _ _ _ _ _ us hl => match us, hl with | [_, _], _ => rfl
    x_NoSystem := ⟨⟨_, _, _, _, _, _, _, _, _, _, _, _, _, _, _, xL_NoSystem, xR_NoSystem⟩, xS_NoSystem, xE_NoSystem, xT_NoSystem, xK_NoSystem⟩
    xf_NoSystem := ⟨xG_NoSystem, xH_NoSystem, xE_NoSystem, xD_NoSystem⟩
    xn_NoSystem := xN_NoSystem
    xi_NoSystem := h_NoSystem_init
    xt_NoSystem := xi_NoSystem
    x_NoProcess := ⟨⟨_, _, _, _, _, _, _, _, _, _, _, _, _, _, _, xL_NoProcess, xR_NoProcess⟩, xS_NoProcess, xE_NoProcess, xT_NoProcess, xK_NoProcess⟩
    xf_NoProcess := ⟨xG_NoProcess, xH_NoProcess, xE_NoProcess, xD_NoProcess⟩
    xn_NoProcess := xN_NoProcess
    xi_NoProcess := h_NoProcess_init
    xt_NoProcess := xi_NoProcess
    x_NoPages := ⟨⟨_, _, _, _, _, _, _, _, _, _, _, _, _, _, _, xL_NoPages, xR_NoPages⟩, xS_NoPages, xE_NoPages, xT_NoPages, xK_NoPages⟩
    xf_NoPages := ⟨xG_NoPages, xH_NoPages, xE_NoPages, xD_NoPages⟩
    xn_NoPages := xN_NoPages
    xi_NoPages := h_NoPages_init
    xt_NoPages := xi_NoPages
    x_NotMapped := ⟨⟨_, _, _, _, _, _, _, _, _, _, _, _, _, _, _, xL_NotMapped, xR_NotMapped⟩, xS_NotMapped, xE_NotMapped, xT_NotMapped, xK_NotMapped⟩
    xf_NotMapped := ⟨xG_NotMapped, xH_NotMapped, xE_NotMapped, xD_NotMapped⟩
    xn_NotMapped := xN_NotMapped
    xi_NotMapped := h_NotMapped_init
    xt_NotMapped := xi_NotMapped
    x_NoRight := ⟨⟨_, _, _, _, _, _, _, _, _, _, _, _, _, _, _, xL_NoRight, xR_NoRight⟩, xS_NoRight, xE_NoRight, xT_NoRight, xK_NoRight⟩
    xf_NoRight := ⟨xG_NoRight, xH_NoRight, xE_NoRight, xD_NoRight⟩
    xn_NoRight := xN_NoRight
    xi_NoRight := h_NoRight_init
    xt_NoRight := xi_NoRight
    x_PastEnd := ⟨⟨_, _, _, _, _, _, _, _, _, _, _, _, _, _, _, xL_PastEnd, xR_PastEnd⟩, xS_PastEnd, xE_PastEnd, xT_PastEnd, xK_PastEnd⟩
    xf_PastEnd := ⟨xG_PastEnd, xH_PastEnd, xE_PastEnd, xD_PastEnd⟩
    xn_PastEnd := xN_PastEnd
    xi_PastEnd := h_PastEnd_init
    xt_PastEnd := xi_PastEnd
    x_NoFile := ⟨⟨_, _, _, _, _, _, _, _, _, _, _, _, _, _, _, xL_NoFile, xR_NoFile⟩, xS_NoFile, xE_NoFile, xT_NoFile, xK_NoFile⟩
    xf_NoFile := ⟨xG_NoFile, xH_NoFile, xE_NoFile, xD_NoFile⟩
    xn_NoFile := xN_NoFile
    xi_NoFile := h_NoFile_init
    xt_NoFile := xi_NoFile
    x_Taken := ⟨⟨_, _, _, _, _, _, _, _, _, _, _, _, _, _, _, xL_Taken, xR_Taken⟩, xS_Taken, xE_Taken, xT_Taken, xK_Taken⟩
    xf_Taken := ⟨xG_Taken, xH_Taken, xE_Taken, xD_Taken⟩
    xn_Taken := xN_Taken
    xi_Taken := h_Taken_init
    xt_Taken := xi_Taken
    x_NoLock := ⟨⟨_, _, _, _, _, _, _, _, _, _, _, _, _, _, _, xL_NoLock, xR_NoLock⟩, xS_NoLock, xE_NoLock, xT_NoLock, xK_NoLock⟩
    xf_NoLock := ⟨xG_NoLock, xH_NoLock, xE_NoLock, xD_NoLock⟩
    xn_NoLock := xN_NoLock
    xi_NoLock := h_NoLock_init
    xt_NoLock := xi_NoLock
    x_NoStep := ⟨⟨_, _, _, _, _, _, _, _, _, _, _, _, _, _, _, xL_NoStep, xR_NoStep⟩, xS_NoStep, xE_NoStep, xT_NoStep, xK_NoStep⟩
    xf_NoStep := ⟨xG_NoStep, xH_NoStep, xE_NoStep, xD_NoStep⟩
    xn_NoStep := xN_NoStep
    xi_NoStep := h_NoStep_init
    xt_NoStep := xi_NoStep
    x_NoCharge := ⟨⟨_, _, _, _, _, _, _, _, _, _, _, _, _, _, _, xL_NoCharge, xR_NoCharge⟩, xS_NoCharge, xE_NoCharge, xT_NoCharge, xK_NoCharge⟩
    xf_NoCharge := ⟨xG_NoCharge, xH_NoCharge, xE_NoCharge, xD_NoCharge⟩
    x_NoRoom := ⟨⟨_, _, _, _, _, _, _, _, _, _, _, _, _, _, _, xL_NoRoom, xR_NoRoom⟩, xS_NoRoom, xE_NoRoom, xT_NoRoom, xK_NoRoom⟩
    xf_NoRoom := ⟨xG_NoRoom, xH_NoRoom, xE_NoRoom, xD_NoRoom⟩
    x_NoHistory := ⟨⟨_, _, _, _, _, _, _, _, _, _, _, _, _, _, _, xL_NoHistory, xR_NoHistory⟩, xS_NoHistory, xE_NoHistory, xT_NoHistory, xK_NoHistory⟩
    xf_NoHistory := ⟨xG_NoHistory, xH_NoHistory, xE_NoHistory, xD_NoHistory⟩
    x_PageError := ⟨⟨_, _, _, _, _, _, _, _, _, _, _, _, _, _, _, xL_PageError, xR_PageError⟩, xS_PageError, xE_PageError, xT_PageError, xK_PageError⟩
    xf_PageError := ⟨xG_PageError, xH_PageError, xE_PageError, xD_PageError⟩
    b_int := PySem.W.mg_none_of X G b_int
    b_len := PySem.W.mg_none_of X G b_len
    b_isinstance := PySem.W.mg_none_of X G b_isinstance
    b_bool := PySem.W.mg_none_of X G b_bool
    b_str := PySem.W.mg_none_of X G b_str
    b_list := PySem.W.mg_none_of X G b_list
    b_range := PySem.W.mg_none_of X G b_range
    b_enumerate := PySem.W.mg_none_of X G b_enumerate
    b_ValueError := PySem.W.mg_none_of X G b_ValueError
    i_NoSystem := ⟨xG_NoSystem, xH_NoSystem, xE_NoSystem, xD_NoSystem, xA_NoSystem, sN, sT, xM_NoSystem⟩
    i_NoProcess := ⟨xG_NoProcess, xH_NoProcess, xE_NoProcess, xD_NoProcess, xA_NoProcess, sN, sT, xM_NoProcess⟩
    i_NoPages := ⟨xG_NoPages, xH_NoPages, xE_NoPages, xD_NoPages, xA_NoPages, sN, sT, xM_NoPages⟩
    i_NotMapped := ⟨xG_NotMapped, xH_NotMapped, xE_NotMapped, xD_NotMapped, xA_NotMapped, sN, sT, xM_NotMapped⟩
    i_NoRight := ⟨xG_NoRight, xH_NoRight, xE_NoRight, xD_NoRight, xA_NoRight, sN, sT, xM_NoRight⟩
    i_PastEnd := ⟨xG_PastEnd, xH_PastEnd, xE_PastEnd, xD_PastEnd, xA_PastEnd, sN, sT, xM_PastEnd⟩
    i_NoFile := ⟨xG_NoFile, xH_NoFile, xE_NoFile, xD_NoFile, xA_NoFile, sN, sT, xM_NoFile⟩
    i_Taken := ⟨xG_Taken, xH_Taken, xE_Taken, xD_Taken, xA_Taken, sN, sT, xM_Taken⟩
    i_NoLock := ⟨xG_NoLock, xH_NoLock, xE_NoLock, xD_NoLock, xA_NoLock, sN, sT, xM_NoLock⟩
    i_NoStep := ⟨xG_NoStep, xH_NoStep, xE_NoStep, xD_NoStep, xA_NoStep, sN, sT, xM_NoStep⟩
    i_NoCharge := ⟨xG_NoCharge, xH_NoCharge, xE_NoCharge, xD_NoCharge, xA_NoCharge, sN, sT, xM_NoCharge⟩
    q_NoCharge := xQ_NoCharge
    st_NoCharge := xP_NoCharge
    kc_NoCharge := xK_NoCharge
    i_NoRoom := ⟨xG_NoRoom, xH_NoRoom, xE_NoRoom, xD_NoRoom, xA_NoRoom, sN, sT, xM_NoRoom⟩
    q_NoRoom := xQ_NoRoom
    st_NoRoom := xP_NoRoom
    kc_NoRoom := xK_NoRoom
    i_NoHistory := ⟨xG_NoHistory, xH_NoHistory, xE_NoHistory, xD_NoHistory, xA_NoHistory, sN, sT, xM_NoHistory⟩
    q_NoHistory := xQ_NoHistory
    st_NoHistory := xP_NoHistory
    kc_NoHistory := xK_NoHistory
    kA := kA
    kP := kP
    kV := kV }

theorem fin {l : PySem.W.OpenLaw} {w : World} {K : PySem.W.Frag} {mg : Str → Option Value} {fa : Addr} {h : Heap} {A : Adr}
    (G : Txt K mg A) (KX : K.In h) (hmg : mg "law" = some (.ref fa)) :
    ∃ fd : FuncData, (∀ (s : Shared) (u : Value), BindsTo s fd ⟨[u], []⟩ [(("script" : Str), u)]) ∧
        ∀ base : Heap, K.In base → base.Ns mainGlobals mg → FnOk l.prog w K mg base CX0 8 fa fd ["script"] (spLaw K) := by
  have ea : A.a_law = fa := by
    have := G.g_law.symm.trans hmg
    cases this
    rfl
  refine ⟨A.fd_law, ?_, fun base _ _ => ?_⟩
  · obtain ⟨oc, od, kV, doc, pm, an, cdv, ct, osl, hfd, lk, hcd⟩ := G.f_law.ex
    intro s u
    rw [hfd]
    exact .of_eq rfl
  · rw [← ea]
    exact ok_law G
end My
open PySem PySem.W PyProof.Rows
set_option maxRecDepth 100000 in
set_option maxHeartbeats 0 in
theorem PySem.Challenge.cw_pageclass_k07_errors_by_hand_holds : PySem.Challenge.rw_pageclass_k07_errors_by_hand.Holds := by
  w_on; o_law; k_head; (case hw => w_witness2)
  k_fill
  refine L2.walk_ofK (l := PySem.Challenge.rw_pageclass_k07_errors_by_hand) (CX := L2.CX0) (k := 8) (n := 63) (sp := My.spLaw) (x := "script") rfl (by decide) rfl ⟨rfl, by decide, by decide⟩ (fun w h Y => Y) ?F ?S (fun _ _ _ _ z => z)
  case S =>
    intro K H a ns hn _ hS
    exact ⟨a, ns, rfl, hS, hn, fun _ => rfl⟩
  case F =>
    intro w mg fa h KX G hmg
    (refine' My.fin (My.all_mk KX G ?h__law_well ?l__law_well ?c__law_well ?k__law_well ?h__law_draw ?l__law_draw ?c__law_draw ?k__law_draw ?h__law_one ?l__law_one ?c__law_one ?k__law_one ?h__law_errors ?l__law_errors ?c__law_errors ?k__law_errors ?h__law_kinds ?l__law_kinds ?c__law_kinds ?k__law_kinds ?h_law ?l_law ?c_law ?k_law ?h_NoSystem ?h_NoProcess ?h_NoPages ?h_NotMapped ?h_NoRight ?h_PastEnd ?h_NoFile ?h_Taken ?h_NoLock ?h_NoStep ?h_NoCharge ?h_NoRoom ?h_NoHistory ?h_PageError ?h_NoSystem_init ?l_NoSystem_init ?c_NoSystem_init ?k_NoSystem_init ?h_NoProcess_init ?l_NoProcess_init ?c_NoProcess_init ?k_NoProcess_init ?h_NoPages_init ?l_NoPages_init ?c_NoPages_init ?k_NoPages_init ?h_NotMapped_init ?l_NotMapped_init ?c_NotMapped_init ?k_NotMapped_init ?h_NoRight_init ?l_NoRight_init ?c_NoRight_init ?k_NoRight_init ?h_PastEnd_init ?l_PastEnd_init ?c_PastEnd_init ?k_PastEnd_init ?h_NoFile_init ?l_NoFile_init ?c_NoFile_init ?k_NoFile_init ?h_Taken_init ?l_Taken_init ?c_Taken_init ?k_Taken_init ?h_NoLock_init ?l_NoLock_init ?c_NoLock_init ?k_NoLock_init ?h_NoStep_init ?l_NoStep_init ?c_NoStep_init ?k_NoStep_init ?xL_NoSystem ?xR_NoSystem ?xS_NoSystem ?xE_NoSystem ?xT_NoSystem ?xK_NoSystem ?xG_NoSystem ?xH_NoSystem ?xD_NoSystem ?xC_NoSystem ?xN_NoSystem ?xi_NoSystem ?xL_NoProcess ?xR_NoProcess ?xS_NoProcess ?xE_NoProcess ?xT_NoProcess ?xK_NoProcess ?xG_NoProcess ?xH_NoProcess ?xD_NoProcess ?xC_NoProcess ?xN_NoProcess ?xi_NoProcess ?xL_NoPages ?xR_NoPages ?xS_NoPages ?xE_NoPages ?xT_NoPages ?xK_NoPages ?xG_NoPages ?xH_NoPages ?xD_NoPages ?xC_NoPages ?xN_NoPages ?xi_NoPages ?xL_NotMapped ?xR_NotMapped ?xS_NotMapped ?xE_NotMapped ?xT_NotMapped ?xK_NotMapped ?xG_NotMapped ?xH_NotMapped ?xD_NotMapped ?xC_NotMapped ?xN_NotMapped ?xi_NotMapped ?xL_NoRight ?xR_NoRight ?xS_NoRight ?xE_NoRight ?xT_NoRight ?xK_NoRight ?xG_NoRight ?xH_NoRight ?xD_NoRight ?xC_NoRight ?xN_NoRight ?xi_NoRight ?xL_PastEnd ?xR_PastEnd ?xS_PastEnd ?xE_PastEnd ?xT_PastEnd ?xK_PastEnd ?xG_PastEnd ?xH_PastEnd ?xD_PastEnd ?xC_PastEnd ?xN_PastEnd ?xi_PastEnd ?xL_NoFile ?xR_NoFile ?xS_NoFile ?xE_NoFile ?xT_NoFile ?xK_NoFile ?xG_NoFile ?xH_NoFile ?xD_NoFile ?xC_NoFile ?xN_NoFile ?xi_NoFile ?xL_Taken ?xR_Taken ?xS_Taken ?xE_Taken ?xT_Taken ?xK_Taken ?xG_Taken ?xH_Taken ?xD_Taken ?xC_Taken ?xN_Taken ?xi_Taken ?xL_NoLock ?xR_NoLock ?xS_NoLock ?xE_NoLock ?xT_NoLock ?xK_NoLock ?xG_NoLock ?xH_NoLock ?xD_NoLock ?xC_NoLock ?xN_NoLock ?xi_NoLock ?xL_NoStep ?xR_NoStep ?xS_NoStep ?xE_NoStep ?xT_NoStep ?xK_NoStep ?xG_NoStep ?xH_NoStep ?xD_NoStep ?xC_NoStep ?xN_NoStep ?xi_NoStep ?xL_NoCharge ?xR_NoCharge ?xS_NoCharge ?xE_NoCharge ?xT_NoCharge ?xK_NoCharge ?xG_NoCharge ?xH_NoCharge ?xD_NoCharge ?xC_NoCharge ?xL_NoRoom ?xR_NoRoom ?xS_NoRoom ?xE_NoRoom ?xT_NoRoom ?xK_NoRoom ?xG_NoRoom ?xH_NoRoom ?xD_NoRoom ?xC_NoRoom ?xL_NoHistory ?xR_NoHistory ?xS_NoHistory ?xE_NoHistory ?xT_NoHistory ?xK_NoHistory ?xG_NoHistory ?xH_NoHistory ?xD_NoHistory ?xC_NoHistory ?xL_PageError ?xR_PageError ?xS_PageError ?xE_PageError ?xT_PageError ?xK_PageError ?xG_PageError ?xH_PageError ?xD_PageError ?xC_PageError ?b_int ?b_len ?b_isinstance ?b_bool ?b_str ?b_list ?b_range ?b_enumerate ?b_ValueError ?sN ?sT ?xA_NoSystem ?xM_NoSystem ?xA_NoProcess ?xM_NoProcess ?xA_NoPages ?xM_NoPages ?xA_NotMapped ?xM_NotMapped ?xA_NoRight ?xM_NoRight ?xA_PastEnd ?xM_PastEnd ?xA_NoFile ?xM_NoFile ?xA_Taken ?xM_Taken ?xA_NoLock ?xM_NoLock ?xA_NoStep ?xM_NoStep ?xA_NoCharge ?xM_NoCharge ?xQ_NoCharge ?xP_NoCharge ?xA_NoRoom ?xM_NoRoom ?xQ_NoRoom ?xP_NoRoom ?xA_NoHistory ?xM_NoHistory ?xQ_NoHistory ?xP_NoHistory ?kA ?kP ?kV) KX hmg)
    (case h__law_well => k_is)
    (case l__law_well => k_is)
    (case c__law_well => k_is)
    (case k__law_well => k_is)
    (case h__law_draw => k_is)
    (case l__law_draw => k_is)
    (case c__law_draw => k_is)
    (case k__law_draw => k_is)
    (case h__law_one => k_is)
    (case l__law_one => k_is)
    (case c__law_one => k_is)
    (case k__law_one => k_is)
    (case h__law_errors => k_is)
    (case l__law_errors => k_is)
    (case c__law_errors => k_is)
    (case k__law_errors => k_is)
    (case h__law_kinds => k_is)
    (case l__law_kinds => k_is)
    (case c__law_kinds => k_is)
    (case k__law_kinds => k_is)
    (case h_law => k_is)
    (case l_law => k_is)
    (case c_law => k_is)
    (case k_law => k_is)
    (case h_NoSystem => k_is)
    (case h_NoProcess => k_is)
    (case h_NoPages => k_is)
    (case h_NotMapped => k_is)
    (case h_NoRight => k_is)
    (case h_PastEnd => k_is)
    (case h_NoFile => k_is)
    (case h_Taken => k_is)
    (case h_NoLock => k_is)
    (case h_NoStep => k_is)
    (case h_NoCharge => k_is)
    (case h_NoRoom => k_is)
    (case h_NoHistory => k_is)
    (case h_PageError => k_is)
    (case h_NoSystem_init => k_is)
    (case l_NoSystem_init => k_is)
    (case c_NoSystem_init => k_is)
    (case k_NoSystem_init => k_is)
    (case h_NoProcess_init => k_is)
    (case l_NoProcess_init => k_is)
    (case c_NoProcess_init => k_is)
    (case k_NoProcess_init => k_is)
    (case h_NoPages_init => k_is)
    (case l_NoPages_init => k_is)
    (case c_NoPages_init => k_is)
    (case k_NoPages_init => k_is)
    (case h_NotMapped_init => k_is)
    (case l_NotMapped_init => k_is)
    (case c_NotMapped_init => k_is)
    (case k_NotMapped_init => k_is)
    (case h_NoRight_init => k_is)
    (case l_NoRight_init => k_is)
    (case c_NoRight_init => k_is)
    (case k_NoRight_init => k_is)
    (case h_PastEnd_init => k_is)
    (case l_PastEnd_init => k_is)
    (case c_PastEnd_init => k_is)
    (case k_PastEnd_init => k_is)
    (case h_NoFile_init => k_is)
    (case l_NoFile_init => k_is)
    (case c_NoFile_init => k_is)
    (case k_NoFile_init => k_is)
    (case h_Taken_init => k_is)
    (case l_Taken_init => k_is)
    (case c_Taken_init => k_is)
    (case k_Taken_init => k_is)
    (case h_NoLock_init => k_is)
    (case l_NoLock_init => k_is)
    (case c_NoLock_init => k_is)
    (case k_NoLock_init => k_is)
    (case h_NoStep_init => k_is)
    (case l_NoStep_init => k_is)
    (case c_NoStep_init => k_is)
    (case k_NoStep_init => k_is)
    (case xL_NoSystem => k_is)
    (case xR_NoSystem => first | k_is | rfl | decide +kernel)
    (case xS_NoSystem => k_is)
    (case xE_NoSystem => k_is)
    (case xT_NoSystem => k_is)
    (case xK_NoSystem => k_is)
    (case xG_NoSystem => k_is)
    (case xH_NoSystem => k_is)
    (case xD_NoSystem => k_is)
    (case xC_NoSystem => k_is)
    (case xN_NoSystem => k_is)
    (case xi_NoSystem => k_is)
    (case xL_NoProcess => k_is)
    (case xR_NoProcess => first | k_is | rfl | decide +kernel)
    (case xS_NoProcess => k_is)
    (case xE_NoProcess => k_is)
    (case xT_NoProcess => k_is)
    (case xK_NoProcess => k_is)
    (case xG_NoProcess => k_is)
    (case xH_NoProcess => k_is)
    (case xD_NoProcess => k_is)
    (case xC_NoProcess => k_is)
    (case xN_NoProcess => k_is)
    (case xi_NoProcess => k_is)
    (case xL_NoPages => k_is)
    (case xR_NoPages => first | k_is | rfl | decide +kernel)
    (case xS_NoPages => k_is)
    (case xE_NoPages => k_is)
    (case xT_NoPages => k_is)
    (case xK_NoPages => k_is)
    (case xG_NoPages => k_is)
    (case xH_NoPages => k_is)
    (case xD_NoPages => k_is)
    (case xC_NoPages => k_is)
    (case xN_NoPages => k_is)
    (case xi_NoPages => k_is)
    (case xL_NotMapped => k_is)
    (case xR_NotMapped => first | k_is | rfl | decide +kernel)
    (case xS_NotMapped => k_is)
    (case xE_NotMapped => k_is)
    (case xT_NotMapped => k_is)
    (case xK_NotMapped => k_is)
    (case xG_NotMapped => k_is)
    (case xH_NotMapped => k_is)
    (case xD_NotMapped => k_is)
    (case xC_NotMapped => k_is)
    (case xN_NotMapped => k_is)
    (case xi_NotMapped => k_is)
    (case xL_NoRight => k_is)
    (case xR_NoRight => first | k_is | rfl | decide +kernel)
    (case xS_NoRight => k_is)
    (case xE_NoRight => k_is)
    (case xT_NoRight => k_is)
    (case xK_NoRight => k_is)
    (case xG_NoRight => k_is)
    (case xH_NoRight => k_is)
    (case xD_NoRight => k_is)
    (case xC_NoRight => k_is)
    (case xN_NoRight => k_is)
    (case xi_NoRight => k_is)
    (case xL_PastEnd => k_is)
    (case xR_PastEnd => first | k_is | rfl | decide +kernel)
    (case xS_PastEnd => k_is)
    (case xE_PastEnd => k_is)
    (case xT_PastEnd => k_is)
    (case xK_PastEnd => k_is)
    (case xG_PastEnd => k_is)
    (case xH_PastEnd => k_is)
    (case xD_PastEnd => k_is)
    (case xC_PastEnd => k_is)
    (case xN_PastEnd => k_is)
    (case xi_PastEnd => k_is)
    (case xL_NoFile => k_is)
    (case xR_NoFile => first | k_is | rfl | decide +kernel)
    (case xS_NoFile => k_is)
    (case xE_NoFile => k_is)
    (case xT_NoFile => k_is)
    (case xK_NoFile => k_is)
    (case xG_NoFile => k_is)
    (case xH_NoFile => k_is)
    (case xD_NoFile => k_is)
    (case xC_NoFile => k_is)
    (case xN_NoFile => k_is)
    (case xi_NoFile => k_is)
    (case xL_Taken => k_is)
    (case xR_Taken => first | k_is | rfl | decide +kernel)
    (case xS_Taken => k_is)
    (case xE_Taken => k_is)
    (case xT_Taken => k_is)
    (case xK_Taken => k_is)
    (case xG_Taken => k_is)
    (case xH_Taken => k_is)
    (case xD_Taken => k_is)
    (case xC_Taken => k_is)
    (case xN_Taken => k_is)
    (case xi_Taken => k_is)
    (case xL_NoLock => k_is)
    (case xR_NoLock => first | k_is | rfl | decide +kernel)
    (case xS_NoLock => k_is)
    (case xE_NoLock => k_is)
    (case xT_NoLock => k_is)
    (case xK_NoLock => k_is)
    (case xG_NoLock => k_is)
    (case xH_NoLock => k_is)
    (case xD_NoLock => k_is)
    (case xC_NoLock => k_is)
    (case xN_NoLock => k_is)
    (case xi_NoLock => k_is)
    (case xL_NoStep => k_is)
    (case xR_NoStep => first | k_is | rfl | decide +kernel)
    (case xS_NoStep => k_is)
    (case xE_NoStep => k_is)
    (case xT_NoStep => k_is)
    (case xK_NoStep => k_is)
    (case xG_NoStep => k_is)
    (case xH_NoStep => k_is)
    (case xD_NoStep => k_is)
    (case xC_NoStep => k_is)
    (case xN_NoStep => k_is)
    (case xi_NoStep => k_is)
    (case xL_NoCharge => k_is)
    (case xR_NoCharge => first | k_is | rfl | decide +kernel)
    (case xS_NoCharge => k_is)
    (case xE_NoCharge => k_is)
    (case xT_NoCharge => k_is)
    (case xK_NoCharge => k_is)
    (case xG_NoCharge => k_is)
    (case xH_NoCharge => k_is)
    (case xD_NoCharge => k_is)
    (case xC_NoCharge => k_is)
    (case xL_NoRoom => k_is)
    (case xR_NoRoom => first | k_is | rfl | decide +kernel)
    (case xS_NoRoom => k_is)
    (case xE_NoRoom => k_is)
    (case xT_NoRoom => k_is)
    (case xK_NoRoom => k_is)
    (case xG_NoRoom => k_is)
    (case xH_NoRoom => k_is)
    (case xD_NoRoom => k_is)
    (case xC_NoRoom => k_is)
    (case xL_NoHistory => k_is)
    (case xR_NoHistory => first | k_is | rfl | decide +kernel)
    (case xS_NoHistory => k_is)
    (case xE_NoHistory => k_is)
    (case xT_NoHistory => k_is)
    (case xK_NoHistory => k_is)
    (case xG_NoHistory => k_is)
    (case xH_NoHistory => k_is)
    (case xD_NoHistory => k_is)
    (case xC_NoHistory => k_is)
    (case xL_PageError => k_is)
    (case xR_PageError => first | k_is | rfl | decide +kernel)
    (case xS_PageError => k_is)
    (case xE_PageError => k_is)
    (case xT_PageError => k_is)
    (case xK_PageError => k_is)
    (case xG_PageError => k_is)
    (case xH_PageError => k_is)
    (case xD_PageError => k_is)
    (case xC_PageError => k_is)
    (case b_int => k_is)
    (case b_len => k_is)
    (case b_isinstance => k_is)
    (case b_bool => k_is)
    (case b_str => k_is)
    (case b_list => k_is)
    (case b_range => k_is)
    (case b_enumerate => k_is)
    (case b_ValueError => k_is)
    (case sN => k_is)
    (case sT => k_is)
    (case xA_NoSystem => k_is)
    (case xM_NoSystem => k_is)
    (case xA_NoProcess => k_is)
    (case xM_NoProcess => k_is)
    (case xA_NoPages => k_is)
    (case xM_NoPages => k_is)
    (case xA_NotMapped => k_is)
    (case xM_NotMapped => k_is)
    (case xA_NoRight => k_is)
    (case xM_NoRight => k_is)
    (case xA_PastEnd => k_is)
    (case xM_PastEnd => k_is)
    (case xA_NoFile => k_is)
    (case xM_NoFile => k_is)
    (case xA_Taken => k_is)
    (case xM_Taken => k_is)
    (case xA_NoLock => k_is)
    (case xM_NoLock => k_is)
    (case xA_NoStep => k_is)
    (case xM_NoStep => k_is)
    (case xA_NoCharge => k_is)
    (case xM_NoCharge => k_is)
    (case xQ_NoCharge => first | k_exc | kx_is | k_is | rfl)
    (case xP_NoCharge => k_is)
    (case xA_NoRoom => k_is)
    (case xM_NoRoom => k_is)
    (case xQ_NoRoom => first | k_exc | kx_is | k_is | rfl)
    (case xP_NoRoom => k_is)
    (case xA_NoHistory => k_is)
    (case xM_NoHistory => k_is)
    (case xQ_NoHistory => first | k_exc | kx_is | k_is | rfl)
    (case xP_NoHistory => k_is)
    (case kA => first | rfl | decide +kernel)
    (case kP => first | rfl | decide +kernel)
    (case kV => first | rfl | decide +kernel)


