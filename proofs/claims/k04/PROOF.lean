import PyProof.Rows.All
import Wide.All
import OpenK.AllK
import Wide.FinOn
import HandS.ForMost
import HandS.IsInst
import HandS.Walk
import HandS.Exc
import HandS.Style
import HandS.Evl
import KE.KExcSuper
import KE.KExcIs
import KE.KSuper
import HandS.ExcInit
import HandS.ExcBuiltin
import HandS.ExcOwn
import HandS.ExcIs
import HandS.ExcValue
import HandS.TryMany
import HandS.FStr
import HandS.Steps
import HandS.ClsMeth
import HandS.ExcField
import HandS.FStrTup
import HandS.Property
import HandS.OwnEq
import KE.KCallOwn
import KE.KOpsOwn
import HandS.Star
import HandS.Defaults
import KE.KParD
import HandS.ExcCtx
import HandS.More
import HandS.Conv
import HandS.DictComp
import HandS.ListItems
import KE.KEqDict
import KE.KDictSum
import HandS.RaiseMore
import HandS.Small
import HandS.Dict
import HandS.Lambda
import HandS.EndTab
import PyProof.StrLawsRepr
import PyProof.InstNe
import HandS.DictTup
import PyProof.EqAt
import PyProof.EqKinds
import HandS.DictEq
import PyProof.ReprRoads
import PyProof.NeKinds
import PyProof.NeData
import KE.GoesMore
import KE.GoesEnum
import HandS.Iter
import KE.KOwnIter
import HandS.IterVal
import HandS.OwnIter
import HandS.TupAny
import HandS.Flow
import KE.KDictZip
import PySem.Challenge.RW_skipahead_k04_items_and_rows_judged
set_option Elab.async false
set_option linter.all false
set_option maxRecDepth 100000
set_option maxHeartbeats 4000000
/-! Defs whose surroundings have no repr under way: the room with that fact, a def's promise in such a room, its calls, the law's end. -/
namespace G9
open PySem PySem.Spec PyProof.Rows L2

structure RoomG (k : Nat) (A : Around) : Prop where
  r : Room k A
  g : A.guards = some []
theorem RoomG.down {j k : Nat} {A : Around} (h : RoomG k A) (l : j ≤ k) : RoomG j A := ⟨h.r.mono l, h.g⟩

structure FnG (P : Program) (w : World) (K : PySem.W.Frag) (mg : Str → Option Value) (base : Heap) (CX : CXT) (k : Nat) (f : Addr) (fd : FuncData) (ps : List Str) (sp : Sp) : Prop where
  count : ∀ vs H Q E, sp vs H Q E → vs.length = ps.length
  goes : ∀ (A : Around) (fs : List Env) (s : Shared) (H : Hp) (as : Args) (us : List Value) (vs : List V) (Q : VK) (E : XK), RoomG k A → Env0 P w K mg base A fs s H →
    BindsTo s fd as (ps.zip us) → Vals vs us → sp vs H Q E → codeAny (model P w) A (.call (.ref f) as) (CR CX fs P w H s Q E) s

section
variable {P : Program} {w : World} {K : PySem.W.Frag} {mg : Str → Option Value} {base : Heap} {CX : CXT} {k : Nat} {f : Addr} {fd : FuncData} {ps N : List Str} {sp : Sp}
theorem FnG.up {j : Nat} (F : FnG P w K mg base CX j f fd ps sp) (l : j ≤ k) : FnG P w K mg base CX k f fd ps sp :=
  ⟨F.count, fun A fs s H as us vs Q E h => F.goes A fs s H as us vs Q E (h.down l)⟩
theorem FnG.weaker {sp' : Sp} (F : FnG P w K mg base CX k f fd ps sp) (i : ∀ vs H Q E, sp' vs H Q E → sp vs H Q E) : FnG P w K mg base CX k f fd ps sp' :=
  ⟨fun vs H Q E h => F.count vs H Q E (i vs H Q E h), fun A fs s H as us vs Q E a b c d e => F.goes A fs s H as us vs Q E a b c d (i vs H Q E e)⟩

/-- a def by its body -/
theorem by_body {name qual : Str} {params : Arguments} {body : List Stmt} {scope : Scope} {dV kV doc pm cdv ct oc : Value} {an od : Option Addr} {osl : Array (Option Value)}
    (at_ : K.lookup f = some ⟨oc, od, .func (PySem.W.fnOf name qual params body scope dV kV doc pm an cdv ct), osl⟩) (cd : PySem.W.codeIn K cdv qual = true) (S : FnScope N ps scope)
    (count : ∀ vs H Q E, sp vs H Q E → vs.length = ps.length)
    (hb : ∀ (A : Around) (fs : List Env) (s : Shared) (H : Hp) (vs : List V) (Q : VK) (E : XK), RoomG k (A.deeper (envOfC qual scope s.heap.objs.size f cdv)) → sp vs H Q E →
      ∃ t, PSs (cxOf CX P w K mg base N qual scope f cdv A fs s H E) body t ∧ t { nx := fun _ G => Q .non G, rt := Q } (start N vs) H) :
    FnG P w K mg base CX (k + 1) f (PySem.W.fnOf name qual params body scope dV kV doc pm an cdv ct) ps sp := by
  constructor
  · exact count
  intro A fs s H as us vs Q E room env bind rel want
  have same := count _ _ _ _ want
  have inS : K.In s.heap := env.mod.kin.keeps fun b o z => (env.bs b o z).1
  have noLim : s.heap.NoLimit := env.mod.nolimit.keeps fun b o z => (env.bs b o z).1
  have kinds : ∀ y ∈ ps.zip us, scope.names.lookup y.1 = some .local ∨ (scope.names.lookup y.1 = some .cell ∧ ((cellsFrom (s.heap.objs.size + 1) scope.names []).lookup y.1).isSome = true) := by
    rintro ⟨n, v⟩ hy
    rcases S.par n (List.of_mem_zip hy).1 with z | z
    · exact Or.inl z
    · exact Or.inr ⟨z, PySem.W.cellsFrom_some _ _ _ (.inl z)⟩
  refine codeAny_call_function room.r.depth (inS _ _ at_) rfl S.co S.gen rfl (PySem.W.codeRec_of inS cd) (bind _ _ _ _ ?_)
  refine wpAny_newFunctionEnv_cells S.kind kinds fun en ee s1 x => ?_
  subst ee
  refine ⟨noLim.keeps x.toInCall.keep, codeAny_func ?_⟩
  obtain ⟨t, ht, hq⟩ := hb A fs s H vs Q E ⟨room.r.deeper _, room.g⟩ want
  have J := inv_start (CX := CX) (E := E) S room.r.hd env same rel x
  have done : ∀ {τ : L2.St} {G : Hp} {v : V} {u : Value} {z : Shared}, Inv (cxOf CX P w K mg base N qual scope f cdv A fs s H E) [] τ G z → RelV v u → Q v G → CE fs P w H s Q u z :=
    fun {_ G v _ _} I r q => ⟨v, G, I.os, I.bare, I.base, I.hok, r, q⟩
  refine wpAny_mono (ht.run [] s1 (start N vs) H _ J hq) ?_ fun _ _ z => z
  intro fl z hz
  cases fl with
  | next =>
    obtain ⟨_, _, I, q⟩ := hz
    exact done (v := V.non) (u := Value.none) I rfl q
  | ret u =>
    obtain ⟨_, _, _, I, r, q⟩ := hz
    exact done I r q
  | brk => exact hz.elim fun _ h => h.elim fun _ h => h.2.elim
  | cont => exact hz.elim fun _ h => h.elim fun _ h => h.2.elim

/-- a def of the text, nothing raised leaves it -/
theorem okG {x qual : Str} {st : Stmt} (F : Fun K x qual st f fd) (S : FnScope N ps (defScope st)) (count : ∀ vs H Q E, sp vs H Q E → vs.length = ps.length)
    (hb : ∀ (cdv : Value) (A : Around) (fs : List Env) (s : Shared) (H : Hp) (vs : List V) (Q : VK) (E : XK), RoomG k (A.deeper (envOfC qual (defScope st) s.heap.objs.size f cdv)) → sp vs H Q E →
      ∃ t, PSs (cxOf CX0 P w K mg base N qual (defScope st) f cdv A fs s H E).nox (defBody st) t ∧ t { nx := fun _ G => Q .non G, rt := Q } (start N vs) H) : FnG P w K mg base CX0 (k + 1) f fd ps sp := by
  obtain ⟨_, _, _, _, _, _, cdv, _, _, rfl, lk, cd⟩ := F.ex
  refine by_body lk cd S count fun A fs s H vs Q E room want => ?_
  obtain ⟨t, h, q⟩ := hb cdv A fs s H vs Q E room want
  exact ⟨t, h.nox, q⟩
end

section
variable {X : Cx} {CX : CXT} {k : Nat} {f C : Addr} {fd : FuncData} {ps : List Str} {sp : Sp} {dvs : List V} {ds : List Value} {E : XK} {x m : Str} {p pos apos : Pos} {e o : Expr} {es : List Expr} {ta : TE} {t : TA}
theorem callee {pins : List (Addr × Obj)} {σ : L2.St} {H : Hp} {s : Shared} {Q : VK} {us : List Value} {vs : List V} (F : FnG X.prog X.w X.K X.mg X.base CX k f fd ps sp) (room : RoomG k X.A) (hb : Binds X.K fd ps ds) (hd : Vals dvs ds) (hx : Passes CX X E)
    (I : Inv X pins σ H s) (r : Vals vs us) (want : sp (vs ++ dvs) H Q E) : wpAny (model X.prog X.w) X.A (call (.ref f) us) (EP X pins σ Q) X.xe s := by
  have rr : Vals (vs ++ dvs) (us ++ ds) := r.append hd
  have len : (us ++ ds).length = ps.length := rr.length.symm.trans (F.count _ _ _ _ want)
  refine wpAny_call (codeAny_mono (F.goes X.A X.stack s H ⟨us, []⟩ (us ++ ds) (vs ++ dvs) Q E room I.env0 (hb s us I.kIn len) rr want) ?_)
  intro res z hz
  match res, hz with
  | .error e, hz => exact hx pins σ H s e z I hz
  | .ok (.ret u), hz => exact I.after hz

theorem pe_callG (F : FnG X.prog X.w X.K X.mg X.base CX k f fd ps sp) (room : RoomG k X.A) (hg : Gl X x) (hm : X.mg x = some (.ref f)) (hk : PySem.W.keepIn X.K (.ref f) = true) (hb : Binds X.K fd ps ds) (hd : Vals dvs ds) (hx : Passes CX X E)
    (ha : PA X (e :: es) t) (nd : (x == ("__debug__" : Str)) = false := by decide) (he : starEach (e :: es) X.env = (false, eval e X.env) :: starEach es X.env := by rfl) (hp : (backTo pos (starEach es X.env)).any (·.1) = false := by rfl) :
    PE X (.Call (.Name x p) (e :: es) [] pos) (tCall sp dvs E t) := by
  constructor
  intro pins s σ H Q I want
  refine wpAny_Call_Name_kw (ld_glob I hg hm ?_ nd)
  exact PySem.W.callWith_K (h₀ := X.base) I.ok.mod.kin hk (thn (ha.run pos pins s σ H _ I want) fun us z ⟨vs, G, J, r, q⟩ => ⟨J.kIn, callee F room hb hd hx J r q⟩) he hp
theorem pe_callG0 (F : FnG X.prog X.w X.K X.mg X.base CX k f fd ps sp) (room : RoomG k X.A) (hg : Gl X x) (hm : X.mg x = some (.ref f)) (hk : PySem.W.keepIn X.K (.ref f) = true) (hb : Binds X.K fd ps ds) (hd : Vals dvs ds) (hx : Passes CX X E)
    (nd : (x == ("__debug__" : Str)) = false := by decide) : PE X (.Call (.Name x p) [] [] pos) (tCall sp dvs E tNil) := by
  constructor
  intro pins s σ H Q I want
  exact wpAny_Call_Name_kw (ld_glob I hg hm (PySem.W.callWith_K0 I.kIn hk (callee (us := []) F room hb hd hx I .nil want)) nd)
end

/-- the law's call at the outermost place: the script is a list of nums; nothing is repr'd -/
theorem law_end {P : Program} {w : World} {K : PySem.W.Frag} {mg mb : Str → Option Value} {CX : CXT} {k : Nat} {fa a : Addr} {fd : FuncData} {x : Str} {sp : Sp} {z : Shared} {vs : List Value} {ns : List Int}
    (inK : K.In z.heap) (glo : z.heap.Ns mainGlobals mg) (blt : z.heap.Ns builtinsNs mb) (boot : ∀ y : Str, y ≠ "__name__" → mb y = bootBuiltins y) (lim : z.heap.NoLimit) (bare : z.gens = #[])
    (ha : z.heap.get? a = some { cls := .type "list", data := .seq vs.toArray }) (nums : IntsAre vs ns) (small : ns.length ≤ sizeLine) (room : Room k callerA)
    (F : ∀ base : Heap, K.In base → base.Ns mainGlobals mg → FnG P w K mg base CX k fa fd [x] sp) (bind : ∀ (s : Shared) (u : Value), BindsTo s fd ⟨[u], []⟩ [(x, u)])
    (want : ∀ H : Hp, SqL K H a (ns.map V.int) → sp [.ref a] H (fun v _ => v = .bl true) fun _ _ _ => False)
    (none_out : ∀ H e s', CX [] H z (fun _ _ _ => False) e s' → False) :
    codeAny (model P w) callerA (.call (.ref fa) ⟨[.ref a], []⟩) (fun r s' => r = .ok (.ret (.bool true)) ∧ OldK z.heap s'.heap ∧ s'.os = z.os ∧ AllBare s'.gens) z := by
  have rel := vals_ints nums
  -- at an abstract heap that tracks the script at most, as a locked list
  suffices core : ∀ H : Hp, (∀ b u, H b = some u → b = a ∧ K.lookup a = none ∧ ∃ o xs, u = .frz o (.lst xs)) → SqL K H a (ns.map V.int) → HOk P w H z.heap →
      codeAny (model P w) callerA (.call (.ref fa) ⟨[.ref a], []⟩) (fun r s' => r = .ok (.ret (.bool true)) ∧ OldK z.heap s'.heap ∧ s'.os = z.os ∧ AllBare s'.gens) z by
    cases there : K.lookup a with
    | some o =>
      have same := inK a o there
      rw [ha] at same
      cases same
      refine core (fun _ => none) (fun b u q => by cases (show (none : Option HO) = some u from q)) (Or.inr ⟨_, vs.toArray, _, there, rfl, rfl, rfl, ?_, by simpa using rel⟩) fun b u q => by cases (show (none : Option HO) = some u from q)
      have := nums.length
      simp only [List.size_toArray]
      omega
    | none =>
      have only : ∀ b u, (if b = a then some (HO.frz { cls := .type "list", data := .seq vs.toArray } (.lst (ns.map V.int))) else none) = some u → b = a ∧ u = HO.frz { cls := .type "list", data := .seq vs.toArray } (.lst (ns.map V.int)) := by
        intro b u q
        by_cases hb : b = a
        · rw [if_pos hb] at q
          exact ⟨hb, (Option.some.inj q).symm⟩
        · rw [if_neg hb] at q
          cases q
      refine core (fun b => if b = a then some (.frz { cls := .type "list", data := .seq vs.toArray } (.lst (ns.map V.int))) else none) (fun b u q => ?_) (Or.inl (Or.inr ⟨_, if_pos rfl⟩)) fun b u q => ?_
      · obtain ⟨e1, e2⟩ := only b u q
        exact ⟨e1, there, _, _, e2⟩
      · obtain ⟨e1, e2⟩ := only b u q
        subst e1
        subst e2
        exact ⟨ha, by rw [List.length_map]; exact small, vs, _, rel, ha⟩
  intro H tracked script ok
  have kept : ∀ {b : Addr} {o : Obj}, z.heap.get? b = some o → H b = none → (hidT z.heap H).get? b = some o := fun e n => hidT_get e n
  have noDict : ∀ {b : Addr} {o : Obj} {es : Array DictEntry} {ep : Nat}, z.heap.get? b = some o → o.data = .dict es ep → H b = none := by
    intro b o es ep e d
    cases q : H b with
    | none => rfl
    | some u =>
      obtain ⟨rfl, _, _⟩ := tracked b u q
      rw [ha] at e
      cases e
      cases d
  have nsOf : ∀ {b : Addr} {m : Str → Option Value}, z.heap.Ns b m → (hidT z.heap H).Ns b m := by
    rintro b m ⟨o, es, ep, e, d, r⟩
    exact ⟨o, es, ep, kept e (noDict e d), d, r⟩
  have inB : K.In (hidT z.heap H) := by
    intro b o e
    refine kept (inK b o e) ?_
    cases q : H b with
    | none => rfl
    | some u =>
      obtain ⟨rfl, none', _⟩ := tracked b u q
      rw [none'] at e
      cases e
  have md : Mod K mg (hidT z.heap H) := ⟨inB, nsOf glo, ⟨mb, nsOf blt, boot⟩, by obtain ⟨mc, h1, h2⟩ := lim; exact ⟨mc, nsOf h1, h2⟩⟩
  have env : Env0 P w K mg (hidT z.heap H) callerA [] z H :=
    ⟨rfl, md, fun b o e => of_hidT e, Nat.le_of_eq (hidT_size _ _), trivial, (fun b hb => nomatch hb), ok, .of_eq bare⟩
  refine codeAny_mono ((F _ inB (nsOf glo)).goes callerA [] z H ⟨[.ref a], []⟩ [.ref a] [.ref a] _ _ ⟨room, rfl⟩ env (bind z (.ref a)) (.cons rfl .nil) (want H script)) ?_
  intro res s' h
  match res, h with
  | .error e, h => exact (none_out H e s' h).elim
  | .ok (.ret u), h =>
    obtain ⟨v, G, os, br, un, ok', rv, q⟩ := h
    have q' : v = .bl true := q
    subst q'
    have eu : u = Value.bool true := rv
    subst eu
    refine ⟨rfl, OldK.of_keep fun b o e => ?_, os, br⟩
    cases hq : H b with
    | none => exact un.keep b o e hq (fun t => nomatch t) (fun t => nomatch t)
    | some t =>
      obtain ⟨rfl, _, ob, xs, rfl⟩ := tracked b t hq
      have later := ok' b _ (un.frzs b ob _ hq)
      have now := ok b _ hq
      obtain ⟨g1, _⟩ := now
      obtain ⟨g2, _⟩ := later
      rw [e] at g1
      cases g1
      exact g2

theorem law_walk {l : PySem.W.OpenLaw} {n k : Nat} {q : Program} {loose : List Str} {XP : (Str → Option Value) → Heap → Prop} {YP : World → Heap → Prop} {d : DefRec} {K : Params → PySem.W.Frag} {CX : World → CXT} {sp : World → Sp} {x : Str}
    (most : l.most = some n) (small : n ≤ sizeLine) (plain : d.params.defaults = []) (room : Room k callerA) (inK : ∀ (w : World) (h : Heap), YP w h → (K w.params).In h)
    (F : ∀ (w : World) (mg : Str → Option Value) (fa : Addr) (h : Heap), (K w.params).In h → h.Ns mainGlobals mg → mg d.name = some (.ref fa) →
      ∃ fd : FuncData, (∀ (s : Shared) (u : Value), BindsTo s fd ⟨[u], []⟩ [(x, u)]) ∧ ∀ base : Heap, (K w.params).In base → base.Ns mainGlobals mg → FnG l.prog w (K w.params) mg base (CX w) k fa fd [x] (sp w))
    (want : ∀ (w : World) (H : Hp) (a : Addr) (ns : List Int), ns.length ≤ n → SqL (K w.params) H a (ns.map V.int) → sp w [.ref a] H (fun v _ => v = .bl true) fun _ _ _ => False)
    (none_out : ∀ (w : World) (H : Hp) (s : Shared) (e : Value) (s' : Shared), CX w [] H s (fun _ _ _ => False) e s' → False) :
    PySem.W.WalkO q loose XP YP l.row.toRowW d [] (fun f vs => PySem.call f vs) := by
  refine Att.attach_call most plain ?_
  intro w s₀ z mg mb fa o pm cd doc a vs ns G Y ho hd hcd hmg hobj hints hlen hg
  obtain ⟨fd, hb, hF⟩ := F w mg fa _ (inK w _ Y) G.T.g hmg
  exact law_end (inK w _ Y) G.T.g G.T.b G.T.builtins G.T.nolimit hg hobj hints (Nat.le_trans hlen small) room hF hb (fun H hS => want w H a ns hlen hS) fun H e s' => none_out w H z e s'
end G9

/-! Further rules: powers, repr of data, a text many times, rows of constants; readings step by step. -/
namespace G9
open PySem PySem.Spec PyProof.Rows L2
section
variable {X : Cx} {a b c e : Expr} {ta tb tc : TE} {pos : Pos}

def CPowW (i j : Int) : Prop := 0 ≤ j ∧ (Builtin.Int.intBits i : Int) * j ≤ 2 ^ 27
instance {i j : Int} : Decidable (CPowW i j) := inferInstanceAs (Decidable (0 ≤ j ∧ (Builtin.Int.intBits i : Int) * j ≤ 2 ^ 27))
theorem op_powW : OpR X (binaryOp .Pow) (rI CPowW fun i j => .int (i ^ j.toNat)) := opI fun _ _ _ _ _ _ _ c q => pow_int c.1 c.2 q

theorem rep_size {α : Type} (a : Array α) : ∀ (n : Nat) (b : Array α), ((List.replicate n a).foldl (· ++ ·) b).size = b.size + n * a.size
  | 0, b => by simp
  | n + 1, b => by
    rw [List.replicate_succ, List.foldl_cons, rep_size a n (b ++ a), Array.size_append, Nat.add_mul, Nat.one_mul]
    omega
theorem rep_mem {α : Type} {a : Array α} {x : α} : ∀ {n : Nat} {b : Array α}, x ∈ ((List.replicate n a).foldl (· ++ ·) b).toList → x ∈ b.toList ∨ x ∈ a.toList
  | 0, b, h => Or.inl h
  | n + 1, b, h => by
    rw [List.replicate_succ, List.foldl_cons] at h
    rcases rep_mem h with h | h
    · rw [Array.toList_append] at h
      exact List.mem_append.mp h
    · exact Or.inr h
/-- a text n times, 2 ≤ n -/
def rTimes : R2 := fun x y H Q => ∃ (z : Str) (n : Nat), x = .str z ∧ y = .int (n : Int) ∧ 2 ≤ n ∧ 1 ≤ z.length ∧ z.length * n ≤ 1000000 ∧ Q (.str ⟨(List.replicate n z.cps).foldl (· ++ ·) #[]⟩) H
theorem op_times : OpR X (binaryOp .Mult) rTimes := by
  intro pins s σ H x y v u Q I rx ry h
  obtain ⟨z, n, rfl, rfl, h2, h1, hz, q⟩ := h
  obtain ⟨t, rfl⟩ := rx
  obtain ⟨t', rfl⟩ := ry
  have hn : n ≤ 1000000 := Nat.le_trans (Nat.le_mul_of_pos_left n h1) hz
  have n1 : ¬ ((n : Int) < 1) := by omega
  have n2 : (((n : Int) == 1) || z.length == 0) = false := by
    have e1 : ((n : Int) == 1) = false := by
      rw [beq_eq_false_iff_ne]
      omega
    have e2 : (z.length == 0) = false := by
      rw [beq_eq_false_iff_ne]
      omega
    rw [e1, e2]
    rfl
  have zl : z.length ≤ 1000000 := Nat.le_trans (Nat.le_mul_of_pos_right z.length (by omega)) hz
  refine PySem.P.mul_str ?_ (fun _ _ => ?_) (fun _ _ => ?_) ?_
  · rw [decide_eq_false (by omega), decide_eq_false (by omega)]
    rfl
  · have hd : (1000000 : Int) ≤ (2 ^ 63 - 1) / (n : Int) := by
      rw [Int.le_ediv_iff_mul_le (by omega)]
      omega
    omega
  · show decide (z.length * (n : Int).toNat > sizeLine) = false
    rw [sizeLine_eq]
    simp only [Int.toNat_natCast]
    exact decide_eq_false (by omega)
  · rw [if_neg n1, if_neg (by rw [n2]; exact Bool.false_ne_true), Int.toNat_natCast]
    refine ⟨?_, ⟨.str _, H, I.tok _, ⟨_, rfl⟩, q⟩⟩
    show ((List.replicate n z.cps).foldl (· ++ ·) #[]).size ≤ sizeLine
    rw [rep_size, sizeLine_eq]
    have e : z.length = z.cps.size := rfl
    rw [Nat.mul_comm n, ← e]
    show 0 + z.length * n ≤ 16777216
    omega

/-- repr of a list or a tuple of data -/
def rRepr (K : PySem.W.Frag) : List V → Hp → VK → Prop := fun xs H Q => ∃ (p : Addr) (d : PyData), xs = [.ref p] ∧ Dp K H (.ref p) d ∧ d.showable = true ∧ d.hasDict = false ∧ d.depth ≤ 60 ∧ d.shown.length ≤ sizeLine ∧ Q (.str d.shown) H
theorem call_reprD {k : Nat} (room : RoomG k X.A) : CallR X (.builtin "repr") (rRepr X.K) := by
  intro pins s σ H xs us Q I r h
  obtain ⟨p, d, rfl, hd, h1, h2, h3, h4, q⟩ := h
  obtain ⟨u, rfl, r1⟩ := vals1 r
  obtain ⟨as, rd⟩ := Dp.reads I d _ _ hd r1
  have eu : u = Value.ref p := r1
  subst eu
  have un := room.r.units
  exact repr_of_reads' rd h1 (fun z => by rw [h2] at z; cases z) room.g (by omega) (fun _ _ z => z) (fun h' t tk k => ⟨.str d.shown, H, I.kept k, ⟨t, rfl⟩, q⟩) h4

theorem pe_tyV {x : Str} {n : String} (hg : Gl X x) (hm : X.mg x = none) (hv : bootBuiltins x = some (.type n)) (h1 : x ≠ "__name__" := by decide) (h2 : (x == ("__debug__" : Str)) = false := by decide) : PE X (.Name x pos) (tC (.ty n)) := pe_bltn hg hm hv rfl h1 h2
/-- // by a positive divisor below 2^64 -/
def CDivW (i j : Int) : Prop := 0 < j ∧ j < 18446744073709551616
theorem op_fdivW : OpR X (binaryOp .FloorDiv) (rI CDivW fun i j => .int (i / j)) := opI fun i j _ _ _ _ _ hc q => by
  have h1 : (0 : Int) < j := hc.1
  have h2 : j < 18446744073709551616 := hc.2
  refine floordiv_int (by omega) (by rw [Int.fdiv_eq_ediv_of_nonneg i (by omega)]; exact q) (.inl (PyProof.noPylong_of_log2 ?_))
  have h3 : j.natAbs < 2 ^ 64 := by omega
  have h4 : j.natAbs ≠ 0 := by omega
  exact Nat.lt_trans ((Nat.log2_lt h4).mpr h3) (by decide)
/-! ### rows of constants -/
def cV : Expr → Option V
  | .Constant (.int i) _ _ => some (.int i)
  | .Constant (.bool k) _ _ => some (.bl k)
  | .Constant .none _ _ => some .non
  | .Constant (.str z) _ _ => some (.str z)
  | _ => none
def cVs : List Expr → Option (List V)
  | [] => some []
  | e :: es => match cV e, cVs es with
    | some v, some vs => some (v :: vs)
    | _, _ => none
def tConsts (vs : List V) : TA := fun _ H Q => Q vs H
theorem pe_const {e : Expr} {v : V} (h : cV e = some v) : PE X e (tC v) := by
  unfold cV at h
  split at h
  · cases h; exact pe_int
  · cases h; exact pe_bl
  · cases h; exact pe_non
  · cases h; exact pe_str
  · cases h
theorem star_const {e : Expr} {v : V} (h : cV e = some v) (es : List Expr) (env : Env) : starEach (e :: es) env = (false, eval e env) :: starEach es env := by
  unfold cV at h
  split at h
  · rfl
  · rfl
  · rfl
  · rfl
  · cases h
theorem pa_consts : ∀ {es : List Expr} {vs : List V}, cVs es = some vs → PA X es (tConsts vs)
  | [], vs, h => by
    cases h
    exact pa_nil
  | e :: es, vs, h => by
    unfold cVs at h
    split at h
    · rename_i v vs' h1 h2
      cases h
      exact pa_cons (pe_const h1) (pa_consts h2) (star_const h1 es X.env)
    · cases h

/-! ### readings with names -/
def rInt : List V → Hp → VK → Prop := fun xs H Q => (∃ i, xs = [.int i] ∧ Q (.int i) H) ∨ ∃ k, xs = [.bl k] ∧ Q (.int (if k then 1 else 0)) H
theorem c_int : CallR X (.type "int") rInt := call_int1
def rAbs : List V → Hp → VK → Prop := fun xs H Q => ∃ i, xs = [.int i] ∧ Q (.int (if i < 0 then -i else i)) H
theorem c_abs : CallR X (.builtin "abs") rAbs := call_abs
def rMax2 : List V → Hp → VK → Prop := fun xs H Q => ∃ i j, xs = [.int i, .int j] ∧ Q (.int (if j > i then j else i)) H
theorem c_max2 (hc : X.calm = true) : CallR X (.builtin "max") rMax2 := call_max2 hc
def rMin2 : List V → Hp → VK → Prop := fun xs H Q => ∃ i j, xs = [.int i, .int j] ∧ Q (.int (if j < i then j else i)) H
theorem c_min2 (hc : X.calm = true) : CallR X (.builtin "min") rMin2 := call_min2 hc
def rLen (K : PySem.W.Frag) : List V → Hp → VK → Prop := fun xs H Q => ∃ x n, xs = [x] ∧ LenV K x H n ∧ Q (.int (n : Nat)) H
theorem c_len : CallR X (.builtin "len") (rLen X.K) := call_len
def rAddStr : R2 := fun x y H Q => ∃ i j, x = .str i ∧ y = .str j ∧ i.length + j.length ≤ sizeLine ∧ Q (.str (i ++ j)) H
theorem o_addS : OpR X (binaryOp .Add) rAddStr := op_add_str
def rLeStr : R2 := fun x y H Q => ∃ i j, x = .str i ∧ y = .str j ∧ Q (.bl (!decide (j.cps.toList < i.cps.toList))) H
theorem o_leS : OpR X (compareOp .LtE) rLeStr := op_le_str
def rListOf (K : PySem.W.Frag) : List V → Hp → VK → Prop := fun xs H Q => ∃ p ys, xs = [.ref p] ∧ (SqL K H p ys ∨ SqT K H p ys) ∧ ∀ l, H l = none → Q (.ref l) (upd H l (.lst ys))
theorem c_list : CallR X (.type "list") (rListOf X.K) := call_list_of
def rInS : R2 := fun x y H Q => ∃ (c : Nat) (z : Str), x = .str ⟨#[c]⟩ ∧ y = .str z ∧ Q (.bl (decide (c ∈ z.cps.toList))) H
theorem o_inS : OpR X (compareOp .In) rInS := op_in_sign
def rNinS : R2 := fun x y H Q => ∃ (c : Nat) (z : Str), x = .str ⟨#[c]⟩ ∧ y = .str z ∧ Q (.bl (!decide (c ∈ z.cps.toList))) H
theorem o_ninS : OpR X (compareOp .NotIn) rNinS := op_notIn_sign
end

/-! ### readings, step by step -/
section
variable {K : PySem.W.Frag} {σ : L2.St} {H : Hp} {ta tb tc te : TE} {t u : TT} {tar : TA} {x y z v : V} {r r' : R2} {Q : VK} {D : Ends} {s1 s2 : TS} {g : TG} {sp : Sp} {dvs : List V} {E : XK}
theorem s_var {i : Nat} (h : σ[i]? = some (some v)) (q : Q v H) : tVar i σ H Q := ⟨v, h, q⟩
theorem s_c (q : Q v H) : tC v σ H Q := q
theorem s_op (q : ta σ H fun x H1 => tb σ H1 fun y H2 => r x y H2 Q) : tOp r ta tb σ H Q := q
theorem s_un {rr : V → Hp → VK → Prop} (q : ta σ H fun x H1 => rr x H1 Q) : tUn rr ta σ H Q := q
theorem s_cb {rr : List V → Hp → VK → Prop} (q : tar σ H fun vs H1 => rr vs H1 Q) : tCB rr tar σ H Q := q
theorem s_nil {Q : List V → Hp → Prop} (q : Q [] H) : tNil σ H Q := q
theorem s_cons {Q : List V → Hp → Prop} (q : te σ H fun x H1 => tar σ H1 fun xs H2 => Q (x :: xs) H2) : tCons te tar σ H Q := q
theorem s_consts {vs : List V} {Q : List V → Hp → Prop} (q : Q vs H) : tConsts vs σ H Q := q
theorem s_call (q : tar σ H fun vs H1 => sp (vs ++ dvs) H1 Q E) : tCall sp dvs E tar σ H Q := q
def NewL (xs : List V) (H1 : Hp) (Q : VK) : Prop := xs.length ≤ sizeLine ∧ ∀ p, H1 p = none → Q (.ref p) (upd H1 p (.lst xs))
def NewT (xs : List V) (H1 : Hp) (Q : VK) : Prop := xs.length ≤ sizeLine ∧ ∀ p, H1 p = none → Q (.ref p) (upd H1 p (.tup xs))
theorem s_lst (q : tar σ H fun xs H1 => NewL xs H1 Q) : tLst tar σ H Q := q
theorem s_tup (q : tar σ H fun xs H1 => NewT xs H1 Q) : tTup tar σ H Q := q
theorem same0 {H : Hp} {p : Addr} {o : HO} (n : H p = none) : L2.Same H (upd H p o) := fun b u z => by
  rw [upd_ne (ne_of_none z n)]
  exact z
theorem l_newL {xs : List V} (h : xs.length ≤ sizeLine) (k : ∀ p G, H p = none → L2.Same H G → G p = some (.lst xs) → Q (.ref p) G) : NewL xs H Q := ⟨h, fun p n => k p _ n (same0 n) upd_same⟩
theorem l_newT {xs : List V} (h : xs.length ≤ sizeLine) (k : ∀ p G, H p = none → L2.Same H G → G p = some (.tup xs) → Q (.ref p) G) : NewT xs H Q := ⟨h, fun p n => k p _ n (same0 n) upd_same⟩
theorem s_seq (q : s1 { D with nx := s2 D } σ H) : tSeq s1 s2 D σ H := q
theorem s_asg (q : te σ H fun x H1 => g x σ H1 D.nx) : tAsg te g D σ H := q
theorem s_name {i : Nat} {Q : L2.St → Hp → Prop} (q : Q (σ.set i (some v)) H) : gName i v σ H Q := q
theorem s_ret (q : te σ H D.rt) : tRet te D σ H := q
theorem s_next (q : D.nx σ H) : tNext D σ H := q
theorem s_drop (q : te σ H fun _ H1 => D.nx σ H1) : tDrop te D σ H := q
theorem s_if (q : t σ H fun b H1 => if b = true then s1 D σ H1 else s2 D σ H1) : tIfS t s1 s2 D σ H := q
theorem s_ifE (q : t σ H fun b H1 => if b = true then ta σ H1 Q else tb σ H1 Q) : tIf t ta tb σ H Q := q
theorem s_tb {Q : Bool → Hp → Prop} (q : te σ H fun x H1 => ∃ k, x = .bl k ∧ Q k H1) : tB te σ H Q := q
theorem s_test {Q : Bool → Hp → Prop} (q : te σ H fun x H1 => ∃ k, x = .bl k ∧ Q k H1) : tTest te σ H Q := q
theorem s_yes {Q : Bool → Hp → Prop} (q : Q true H) : tYes σ H Q := q
theorem s_not {Q : Bool → Hp → Prop} (q : t σ H fun b H1 => Q (!b) H1) : tNot t σ H Q := q
theorem s_and {Q : Bool → Hp → Prop} (q : t σ H fun b H1 => if b = true then u σ H1 Q else Q false H1) : tAnd t u σ H Q := q
theorem s_or {Q : Bool → Hp → Prop} (q : t σ H fun b H1 => if b = true then Q true H1 else u σ H1 Q) : tOr t u σ H Q := q
theorem s_andV (q : ta σ H fun x H1 => ∃ k, x = .bl k ∧ if k = true then tb σ H1 Q else Q (.bl false) H1) : tAndV ta tb σ H Q := q
theorem s_orV (q : ta σ H fun x H1 => ∃ k, x = .bl k ∧ if k = true then Q (.bl true) H1 else tb σ H1 Q) : tOrV ta tb σ H Q := q
theorem s_notV (q : ta σ H fun x H1 => ∃ k, x = .bl k ∧ Q (.bl (!k)) H1) : tNotV ta σ H Q := q
theorem s_chain (q : ta σ H fun x H1 => tb σ H1 fun y H2 => r x y H2 fun z H3 => ∃ k, z = .bl k ∧ (if k = true then tc σ H3 fun w H4 => r' y w H4 Q else Q (.bl false) H3)) : tChain r r' ta tb tc σ H Q := q
-- leaves
theorem l_bl {b : Bool} {P : Bool → Prop} (q : P b) : ∃ k, V.bl b = V.bl k ∧ P k := ⟨b, rfl, q⟩
theorem l_I0 {f : Int → Int → V} {i j : Int} (q : Q (f i j) H) : rI0 f (.int i) (.int j) H Q := ⟨i, j, rfl, rfl, q⟩
theorem l_I {C : Int → Int → Prop} {f : Int → Int → V} {i j : Int} (c : C i j) (q : Q (f i j) H) : rI C f (.int i) (.int j) H Q := ⟨i, j, rfl, rfl, c, q⟩
theorem l_U {f : Int → V} {i : Int} (q : Q (f i) H) : rU f (.int i) H Q := ⟨i, rfl, q⟩
theorem l_eq (c : scal x y = true) (q : Q (.bl (decide (x = y))) H) : rEq x y H Q := ⟨c, q⟩
theorem l_ne (c : scal x y = true) (q : Q (.bl (!decide (x = y))) H) : rNe x y H Q := ⟨c, q⟩
-- ifs
theorem i_dec {c A B : Prop} [Decidable c] (h1 : c → A) (h2 : ¬ c → B) : if decide c = true then A else B := by
  by_cases h : c
  · rw [if_pos (decide_eq_true h)]
    exact h1 h
  · rw [if_neg (by rw [decide_eq_false h]; exact Bool.false_ne_true)]
    exact h2 h
theorem i_b {b : Bool} {A B : Prop} (h1 : b = true → A) (h2 : b = false → B) : if b = true then A else B := by
  cases b with
  | true => exact h1 rfl
  | false => exact h2 rfl
theorem i_t {b : Bool} {A B : Prop} (e : b = true) (h : A) : if b = true then A else B := by
  subst e
  exact h
theorem i_f {b : Bool} {A B : Prop} (e : b = false) (h : B) : if b = true then A else B := by
  subst e
  exact h

theorem l_int1 {i : Int} (q : Q (.int i) H) : rInt [.int i] H Q := Or.inl ⟨i, rfl, q⟩
theorem l_int1b {b : Bool} (q : Q (.int (if b then 1 else 0)) H) : rInt [.bl b] H Q := Or.inr ⟨b, rfl, q⟩
theorem l_abs {i : Int} (q : Q (.int (if i < 0 then -i else i)) H) : rAbs [.int i] H Q := ⟨i, rfl, q⟩
theorem l_max2 {i j : Int} (q : Q (.int (if j > i then j else i)) H) : rMax2 [.int i, .int j] H Q := ⟨i, j, rfl, q⟩
theorem l_min2 {i j : Int} (q : Q (.int (if j < i then j else i)) H) : rMin2 [.int i, .int j] H Q := ⟨i, j, rfl, q⟩
theorem l_lenL {p : Addr} {xs : List V} (h : SqL K H p xs) (q : Q (.int (xs.length : Nat)) H) : rLen K [.ref p] H Q := ⟨_, _, rfl, Or.inl ⟨xs, h, rfl⟩, q⟩
theorem l_lenT {p : Addr} {xs : List V} (h : SqT K H p xs) (q : Q (.int (xs.length : Nat)) H) : rLen K [.ref p] H Q := ⟨_, _, rfl, Or.inr ⟨xs, h, rfl⟩, q⟩
theorem l_lenS {y : Str} (h : y.length ≤ sizeLine) (q : Q (.int (y.length : Nat)) H) : rLen K [.str y] H Q := ⟨_, _, rfl, ⟨h, rfl⟩, q⟩
theorem l_addS {y z : Str} (h : y.length + z.length ≤ sizeLine) (q : Q (.str (y ++ z)) H) : rAddStr (.str y) (.str z) H Q := ⟨y, z, rfl, rfl, h, q⟩
theorem l_leS {y z : Str} (q : Q (.bl (!decide (z.cps.toList < y.cps.toList))) H) : rLeStr (.str y) (.str z) H Q := ⟨y, z, rfl, rfl, q⟩
theorem l_listL {p : Addr} {xs : List V} (h : SqL K H p xs) (q : ∀ l G, H l = none → L2.Same H G → G l = some (.lst xs) → Q (.ref l) G) : rListOf K [.ref p] H Q := ⟨p, xs, rfl, Or.inl h, fun l n => q l _ n (same0 n) upd_same⟩
theorem l_listT {p : Addr} {xs : List V} (h : SqT K H p xs) (q : ∀ l G, H l = none → L2.Same H G → G l = some (.lst xs) → Q (.ref l) G) : rListOf K [.ref p] H Q := ⟨p, xs, rfl, Or.inr h, fun l n => q l _ n (same0 n) upd_same⟩
theorem l_ixL {p : Addr} {xs : List V} {i : Int} (h : SqL K H p xs) (a : atI xs i = some v) (q : Q v H) : rIxL K (.ref p) (.int i) H Q := ⟨p, xs, i, v, rfl, rfl, h, a, q⟩
theorem at_in {xs : List V} {i : Int} (h0 : 0 ≤ i) (h1 : i < (xs.length : Int)) : ∃ x, x ∈ xs ∧ xs[i.toNat]? = some x ∧ atI xs i = some x := by
  have hl : i.toNat < xs.length := by omega
  refine ⟨xs[i.toNat], List.getElem_mem hl, List.getElem?_eq_getElem hl, ?_⟩
  have e : atI xs ((i.toNat : Nat) : Int) = some xs[i.toNat] := atI_nat (List.getElem?_eq_getElem hl)
  rwa [Int.toNat_of_nonneg h0] at e

/-! ### heaps: what is kept -/
/-- all but the object at d is kept -/
def Keep (d : Addr) (H G : Hp) : Prop := ∀ b o, b ≠ d → H b = some o → G b = some o
theorem Keep.refl {d : Addr} (H : Hp) : Keep d H H := fun _ _ _ z => z
theorem Keep.trans {d : Addr} {H G J : Hp} (a : Keep d H G) (b : Keep d G J) : Keep d H J := fun x o n z => b x o n (a x o n z)
theorem Keep.of {d : Addr} {H G : Hp} (a : Same H G) : Keep d H G := fun b o _ z => a b o z
theorem Keep.new {d p : Addr} {H G : Hp} {o : HO} (a : Keep d H G) (n : G p = none) : Keep d H (upd G p o) := fun b u nd z => by
  have k := a b u nd z
  rw [upd_ne (ne_of_none k n)]
  exact k
theorem Keep.set {d : Addr} {H G : Hp} {o : HO} (a : Keep d H G) : Keep d H (upd G d o) := fun b u nd z => by
  rw [upd_ne nd]
  exact a b u nd z
theorem Same.new {H G : Hp} {p : Addr} {o : HO} (a : Same H G) (n : G p = none) : Same H (upd G p o) := fun b u z => by
  have k := a b u z
  rw [upd_ne (ne_of_none k n)]
  exact k
theorem Same.upd0 {H : Hp} {p : Addr} {o : HO} (n : H p = none) : Same H (upd H p o) := Same.new (Same.refl H) n
/-- an object unknown to H may be set -/
theorem Same.setNew {H G : Hp} {p : Addr} {o : HO} (a : Same H G) (n : H p = none) : Same H (upd G p o) := fun b u z => by
  rw [upd_ne (ne_of_none z n)]
  exact a b u z
theorem rd_keep {d a : Addr} {H G : Hp} {u : HO} (k : Keep d H G) (n : a ≠ d) (h : Rd H a u) : Rd G a u := by
  rcases h with h | ⟨o, h⟩
  · exact Or.inl (k _ _ n h)
  · exact Or.inr ⟨o, k _ _ n h⟩
theorem sql_keep {d a : Addr} {H G : Hp} {xs : List V} (k : Keep d H G) (n : a ≠ d) (h : SqL K H a xs) : SqL K G a xs := by
  rcases h with h | h
  · exact Or.inl (rd_keep k n h)
  · exact Or.inr h
theorem sqt_keep {d a : Addr} {H G : Hp} {xs : List V} (k : Keep d H G) (n : a ≠ d) (h : SqT K H a xs) : SqT K G a xs := by
  rcases h with h | h
  · exact Or.inl (rd_keep k n h)
  · exact Or.inr h
theorem sqt_same {a : Addr} {H G : Hp} {xs : List V} (k : Same H G) (h : SqT K H a xs) : SqT K G a xs := by
  rcases h with (h | ⟨o, h⟩) | h
  · exact Or.inl (Or.inl (k _ _ h))
  · exact Or.inl (Or.inr ⟨o, k _ _ h⟩)
  · exact Or.inr h
/-! ### dice: three ints in a list -/
def DiceAt (H : Hp) (d : Addr) : Prop := ∃ a b c : Int, H d = some (.lst [.int a, .int b, .int c])
/-- since H the dice at d have been rolled, new things have been made -/
structure Dc (d : Addr) (H G : Hp) : Prop where
  keep : Keep d H G
  dice : DiceAt G d
theorem Dc.refl {d : Addr} {H : Hp} (h : DiceAt H d) : Dc d H H := ⟨Keep.refl H, h⟩
theorem Dc.trans {d : Addr} {H G J : Hp} (a : Dc d H G) (b : Dc d G J) : Dc d H J := ⟨a.keep.trans b.keep, b.dice⟩
theorem DiceAt.ne {d p : Addr} {H : Hp} (h : DiceAt H d) (n : H p = none) : d ≠ p := by
  obtain ⟨_, _, _, e⟩ := h
  exact ne_of_none e n
theorem DiceAt.same {d : Addr} {H G : Hp} (h : DiceAt H d) (s : Same H G) : DiceAt G d := by
  obtain ⟨a, b, c, e⟩ := h
  exact ⟨a, b, c, s _ _ e⟩
theorem Dc.new {d p : Addr} {H G : Hp} {o : HO} (a : Dc d H G) (n : G p = none) : Dc d H (upd G p o) := by
  refine ⟨a.keep.new n, ?_⟩
  obtain ⟨x, y, z, e⟩ := a.dice
  exact ⟨x, y, z, by rw [upd_ne (ne_of_none e n)]; exact e⟩
theorem Dc.same {d : Addr} {H G J : Hp} (a : Dc d H G) (s : Same G J) : Dc d H J := ⟨a.keep.trans (Keep.of s), a.dice.same s⟩
end

section
variable {K : PySem.W.Frag} {σ : L2.St} {H : Hp} {ta tb tc te tl : TE} {t u : TT} {tar : TA} {x y z v : V} {r r' : R2} {Q : VK} {D : Ends} {s1 s2 tbd : TS} {g : TG} {j : Nat} {vs : List Nat}
theorem s_sub {ti : TE} {st : TSet} {Q : L2.St → Hp → Prop} (q : ta σ H fun o H1 => ti σ H1 fun i H2 => st o i v H2 fun H3 => Q σ H3) : gSub ta ti st v σ H Q := q
theorem s_gnil {Q : L2.St → Hp → Prop} (q : Q σ H) : gNil [] σ H Q := ⟨rfl, q⟩
theorem s_gcons {us : TGs} {w : V} {ws : List V} {Q : L2.St → Hp → Prop} (q : g w σ H fun τ G => us ws τ G Q) : gCons g us (w :: ws) σ H Q := ⟨w, ws, rfl, q⟩
theorem l_gtup {n : Nat} {us : TGs} {p : Addr} {xs : List V} {Q : L2.St → Hp → Prop} (h : SqT K H p xs) (e : xs.length = n) (q : us xs σ H Q) : gTup K n us (.ref p) σ H Q := ⟨p, xs, rfl, h, e, q⟩
theorem s_slice {rr : V → Option Int → Option Int → Hp → VK → Prop} {lo hi : TO} (q : te σ H fun x H1 => lo σ H1 fun l H2 => hi σ H2 fun w H3 => rr x l w H3 Q) : tSl rr te lo hi σ H Q := q
theorem s_nopart {Q : Option Int → Hp → Prop} (q : Q none H) : tNoPart σ H Q := q
def rPart (Q : Option Int → Hp → Prop) : V → Hp → Prop := fun x H1 => ∃ i, x = .int i ∧ Q (some i) H1
theorem s_part {Q : Option Int → Hp → Prop} (q : te σ H fun x H1 => rPart Q x H1) : tPart te σ H Q := q
theorem l_part {i : Int} {Q : Option Int → Hp → Prop} (q : Q (some i) H) : rPart Q (.int i) H := ⟨i, rfl, q⟩
theorem l_slS {y : Str} {lo hi : Option Int} (h : y.length ≤ sizeLine) (q : Q (.str (cutS y lo hi)) H) : rSlS (.str y) lo hi H Q := ⟨y, rfl, h, q⟩
theorem l_ixS {y : Str} {i : Int} {c : Nat} (h : y.length ≤ sizeLine) (e : atI y.cps.toList i = some c) (q : Q (.str ⟨#[c]⟩) H) : rIxS (.str y) (.int i) H Q := ⟨y, i, c, rfl, rfl, h, e, q⟩
theorem l_inS {c : Nat} {y : Str} (q : Q (.bl (decide (c ∈ y.cps.toList))) H) : rInS (.str ⟨#[c]⟩) (.str y) H Q := ⟨c, y, rfl, rfl, q⟩
theorem l_ninS {c : Nat} {y : Str} (q : Q (.bl (!decide (c ∈ y.cps.toList))) H) : rNinS (.str ⟨#[c]⟩) (.str y) H Q := ⟨c, y, rfl, rfl, q⟩
theorem l_all {p : Addr} {bs : List Bool} (h : SqL K H p (bs.map V.bl)) (q : Q (.bl (bs.all id)) H) : rAll K [.ref p] H Q := ⟨p, bs, rfl, h, q⟩
theorem l_eqD {d e : PyData} (hd : Dp K H x d) (he : Dp K H y e) (s1 : SeqAt.shaped d = true) (s2 : SeqAt.shaped e = true) (q : Q (.bl (PyData.eqv d e)) H) : rEqD K x y H Q := ⟨d, e, hd, he, s1, s2, q⟩
theorem l_neD {d e : PyData} (hd : Dp K H x d) (he : Dp K H y e) (s1 : SeqAt.shaped d = true) (s2 : SeqAt.shaped e = true) (q : Q (.bl (!PyData.eqv d e)) H) : rNeD K x y H Q := ⟨d, e, hd, he, s1, s2, q⟩
theorem l_repr {p : Addr} {d : PyData} (hd : Dp K H (.ref p) d) (h1 : d.showable = true) (h2 : d.hasDict = false) (h3 : d.depth ≤ 60) (h4 : d.shown.length ≤ sizeLine) (q : Q (.str d.shown) H) : rRepr K [.ref p] H Q := ⟨p, d, rfl, hd, h1, h2, h3, h4, q⟩
theorem l_cat {p q : Addr} {xs ys : List V} (hp : H p = some (.lst xs)) (hq : H q = some (.lst ys)) (sz : xs.length + ys.length ≤ sizeLine) (k : ∀ l G, H l = none → Same H G → G l = some (.lst (xs ++ ys)) → Q (.ref l) G) : rCat (.ref p) (.ref q) H Q := ⟨p, q, xs, ys, rfl, rfl, hp, hq, sz, fun l n => k l _ n (same0 n) upd_same⟩
theorem l_rep {p : Addr} {i : Int} {xs : List V} (hp : H p = some (.lst xs)) (h1 : -(2 ^ 63) ≤ i) (h2 : i < 2 ^ 63) (sz : xs.length * i.toNat ≤ sizeLine) (k : ∀ l G, H l = none → Same H G → G l = some (.lst (List.replicate i.toNat xs).flatten) → Q (.ref l) G) : rRep (.ref p) (.int i) H Q := ⟨p, i, xs, rfl, rfl, hp, h1, h2, sz, fun l n => k l _ n (same0 n) upd_same⟩
theorem l_times {y : Str} {n : Nat} (h2 : 2 ≤ n) (h1 : 1 ≤ y.length) (hz : y.length * n ≤ 1000000) (q : Q (.str ⟨(List.replicate n y.cps).foldl (· ++ ·) #[]⟩) H) : rTimes (.str y) (.int (n : Int)) H Q := ⟨y, n, rfl, rfl, h2, h1, hz, q⟩

def RPar (i j : Nat) (D : Ends) (σ : L2.St) (vs : List V) (H1 : Hp) : Prop := ∃ v w, vs = [v, w] ∧ D.nx ((σ.set i (some v)).set j (some w)) H1
theorem s_par {i j : Nat} (q : tar σ H fun vs H1 => RPar i j D σ vs H1) : tPar i j tar D σ H := q
theorem l_par {i j : Nat} {v w : V} (q : D.nx ((σ.set i (some v)).set j (some w)) H) : RPar i j D σ [v, w] H := ⟨v, w, rfl, q⟩
def RPar3 (i j l : Nat) (D : Ends) (σ : L2.St) (vs : List V) (H1 : Hp) : Prop := ∃ u v w, vs = [u, v, w] ∧ D.nx (((σ.set i (some u)).set j (some v)).set l (some w)) H1
theorem s_par3 {i j l : Nat} (q : tar σ H fun vs H1 => RPar3 i j l D σ vs H1) : tPar3 i j l tar D σ H := q
theorem l_par3 {i j l : Nat} {u v w : V} (q : D.nx (((σ.set i (some u)).set j (some v)).set l (some w)) H) : RPar3 i j l D σ [u, v, w] H := ⟨u, v, w, rfl, q⟩
/-- a join: M holds behind the first part, the second part is read from M on -/
theorem s_cut (M : L2.St → Hp → Prop) (q : s1 { D with nx := M } σ H) (k : ∀ τ G, M τ G → s2 D τ G) : Evl.tCut s1 s2 D σ H := ⟨M, q, k⟩
/-! ### walks -/
def WFor (J : It) (g : TG) (tb : TS) (D : Ends) (σ : L2.St) (H1 : Hp) : Prop := ∃ W : Nat → Nat → L2.St → Hp → Prop, (∃ m, W 0 m σ H1) ∧ ∀ i m σ H, W i m σ H →
  (J.stop i H ∧ D.nx σ H) ∨ (J.go i H ∧ ∃ N : L2.St → Hp → Prop, (∀ σ' H', N σ' H' → ∃ m', m' < m ∧ W (i + 1) m' σ' H') ∧ ∀ x H', J.yld i H x H' → g x σ H' fun σ2 H2 => tb { D with nx := N, ct := N, bk := D.nx } σ2 H2)
def RFor (g : TG) (tb : TS) (D : Ends) (σ : L2.St) (us : List V) (H1 : Hp) : Prop := ∃ n : Int, us = [.int n] ∧ -(2 ^ 62) ≤ n ∧ n < 2 ^ 62 ∧ WFor (Itr 0 n.toNat) g tb D σ H1
theorem s_forR (q : tar σ H fun us H1 => RFor g tbd D σ us H1) : tFor (iRng1 tar) g tbd D σ H := q
theorem l_forR {n : Int} (h0 : -(2 ^ 62) ≤ n) (h1 : n < 2 ^ 62) (Pv : Nat → L2.St → Hp → Prop) (a : Pv 0 σ H) (turn : ∀ (i : Nat) σ H, (i : Int) < n → Pv i σ H → g (.int (i : Int)) σ H fun σ2 H2 => tbd { D with nx := Pv (i + 1), ct := Pv (i + 1), bk := D.nx } σ2 H2)
    (done : ∀ σ H, Pv n.toNat σ H → D.nx σ H) : RFor g tbd D σ [.int n] H :=
  ⟨n, rfl, h0, h1, for_range (lo := 0) Pv a (fun i σ H hi p => by
    have e : (0 : Int) + (i : Int) = (i : Int) := Int.zero_add _
    rw [e]
    exact turn i σ H (by omega) p) done⟩
def TFor (K : PySem.W.Frag) (g : TG) (tb : TS) (D : Ends) (σ : L2.St) (x : V) (H1 : Hp) : Prop := ∃ a, x = .ref a ∧ (∃ xs, SqT K H1 a xs) ∧ WFor (Itt K a) g tb D σ H1
theorem s_forT (q : tl σ H fun x H1 => TFor K g tbd D σ x H1) : tFor (iTup K tl) g tbd D σ H := q
theorem l_forT {p : Addr} {xs : List V} (h : SqT K H p xs) (Pv : Nat → L2.St → Hp → Prop) (a : Pv 0 σ H) (stay : ∀ i σ H, i ≤ xs.length → Pv i σ H → SqT K H p xs)
    (turn : ∀ (i : Nat) x σ H, xs[i]? = some x → Pv i σ H → g x σ H fun σ2 H2 => tbd { D with nx := Pv (i + 1), ct := Pv (i + 1), bk := D.nx } σ2 H2) (done : ∀ σ H, Pv xs.length σ H → D.nx σ H) : TFor K g tbd D σ (.ref p) H :=
  ⟨p, rfl, ⟨xs, h⟩, for_tup Pv a stay turn done⟩

/-! ### comprehensions whose parts leave what is there -/
def WLc (J : It) (g : TG) (tt : TT) (te : TE) (vs : List Nat) (σ : L2.St) (Q : VK) (H1 : Hp) : Prop := ∀ D, H1 D = none → ∃ W : Nat → Nat → Hp → Prop, (∃ m, W 0 m (upd H1 D (.lst []))) ∧ ∀ i m H, W i m H →
  (J.stop i H ∧ Q (.ref D) H) ∨ (J.go i H ∧ ∃ Nx : Hp → Prop, (∀ H', Nx H' → ∃ m', m' < m ∧ W (i + 1) m' H') ∧ ∀ x H', J.yld i H x H' → g x (wipe σ vs) H' fun σ2 H2 => wipe σ2 vs = wipe σ vs ∧ tt σ2 H2 fun b H3 =>
    if b = true then te σ2 H3 fun y H4 => ∃ acc, H4 D = some (.lst acc) ∧ acc.length < sizeLine ∧ Nx (upd H4 D (.lst (acc ++ [y]))) else Nx H3)
theorem take_succ_of {xs : List V} {i : Nat} {x : V} (h : xs[i]? = some x) : xs.take (i + 1) = xs.take i ++ [x] := by
  rw [List.take_add_one, h]
  rfl
/-- a test, an expression evaluates to this, leaving what is there -/
def ToB (t : TT) (τ : L2.St) (G : Hp) (b : Bool) : Prop := ∀ R : Bool → Hp → Prop, (∀ G', Same G G' → R b G') → t τ G R
def ToV (t : TE) (τ : L2.St) (G : Hp) (v : V) : Prop := ∀ R : VK, (∀ G', Same G G' → R v G') → t τ G R
theorem wlc_of {J : It} {xs : List V} {Gd : Hp → Prop} (w : Walk J xs.length Gd (YAt xs)) (stay : ∀ G, Same H G → Gd G) (keep : V → Bool) (f : V → V) (short : xs.length ≤ 100000)
    (test : ∀ x ∈ xs, ∀ G, Same H G → ToB t ((wipe σ [j]).set j (some x)) G (keep x)) (val : ∀ x ∈ xs, keep x = true → ∀ G, Same H G → ToV te ((wipe σ [j]).set j (some x)) G (f x))
    (fin : ∀ D G, H D = none → Same H G → G D = some (.lst ((xs.filter keep).map f)) → Q (.ref D) G) : WLc J (gName j) t te [j] σ Q H := by
  intro D hD
  refine lc_it w (fun i G => Same H G ∧ G D = some (.lst (((xs.take i).filter keep).map f))) ⟨Same.upd0 hD, upd_same⟩ (fun i G _ p => stay G p.1) ?_ (fun G p => ?_)
  · intro i x G G' hi p y
    obtain ⟨rfl, hx⟩ := y
    have mem : x ∈ xs := List.mem_of_getElem? hx
    have tk := take_succ_of hx
    refine s_name ⟨?_, ?_⟩
    · show (((σ.set j none).set j (some x)).set j none) = σ.set j none
      rw [List.set_set, List.set_set]
    refine test x mem _ p.1 _ fun G1 e1 => ?_
    cases hk : keep x with
    | false =>
      refine i_f rfl ⟨p.1.trans e1, ?_⟩
      rw [tk, List.filter_append, List.filter_cons, if_neg (by rw [hk]; exact Bool.false_ne_true), List.filter_nil, List.append_nil]
      exact e1 _ _ p.2
    | true =>
      refine i_t rfl ?_
      refine val x mem hk _ (p.1.trans e1) _ fun G2 e2 => ?_
      refine ⟨_, e2 _ _ (e1 _ _ p.2), ?_, Same.setNew ((p.1.trans e1).trans e2) hD, ?_⟩
      · have h1 : ((xs.take i).filter keep).length ≤ (xs.take i).length := List.length_filter_le _ _
        have h2 : (xs.take i).length ≤ xs.length := by rw [List.length_take]; omega
        rw [List.length_map, sizeLine_eq]
        omega
      · rw [upd_same, tk, List.filter_append, List.filter_cons, if_pos hk, List.filter_nil, List.map_append]
        rfl
  · rw [List.take_length] at p
    exact fin D G hD p.1 p.2
def TxtLc (g : TG) (tt : TT) (te : TE) (vs : List Nat) (σ : L2.St) (Q : VK) (v : V) (H1 : Hp) : Prop := ∃ z, v = .str z ∧ WLc (Its z) g tt te vs σ Q H1
theorem s_lcS (q : tl σ H fun v H1 => TxtLc g t te vs σ Q v H1) : tLc (iStr tl) g t te vs σ H Q := q
def signV (c : Nat) : V := .str ⟨#[c]⟩
theorem walk_signs {z : Str} : Walk (Its z) (z.cps.toList.map signV).length (fun _ => True) (YAt (z.cps.toList.map signV)) := by
  have e : (z.cps.toList.map signV).length = z.cps.size := by rw [List.length_map, Array.length_toList]
  rw [e]
  refine walk_str.mono (fun _ _ => trivial) fun i H x H' hi _ y => ?_
  obtain ⟨rfl, c, hc, rfl⟩ := y
  refine ⟨rfl, ?_⟩
  rw [List.getElem?_map, Array.getElem?_toList, hc]
  rfl
theorem l_lcS {y : Str} (keep : V → Bool) (f : V → V) (short : y.length ≤ 100000) (test : ∀ c ∈ y.cps.toList, ∀ G, Same H G → ToB t ((wipe σ [j]).set j (some (signV c))) G (keep (signV c)))
    (val : ∀ c ∈ y.cps.toList, keep (signV c) = true → ∀ G, Same H G → ToV te ((wipe σ [j]).set j (some (signV c))) G (f (signV c)))
    (fin : ∀ D G, H D = none → Same H G → G D = some (.lst (((y.cps.toList.map signV).filter keep).map f)) → Q (.ref D) G) : TxtLc (gName j) t te [j] σ Q (.str y) H := by
  refine ⟨y, rfl, wlc_of walk_signs (fun _ _ => trivial) keep f ?_ ?_ ?_ fin⟩
  · rw [List.length_map, Array.length_toList]
    exact short
  · intro x hx
    obtain ⟨c, hc, rfl⟩ := List.mem_map.mp hx
    exact test c hc
  · intro x hx
    obtain ⟨c, hc, rfl⟩ := List.mem_map.mp hx
    exact val c hc
def LstLc (K : PySem.W.Frag) (g : TG) (tt : TT) (te : TE) (vs : List Nat) (σ : L2.St) (Q : VK) (x : V) (H1 : Hp) : Prop := ∃ a, x = .ref a ∧ (∃ xs, SqL K H1 a xs) ∧ WLc (Itl K a) g tt te vs σ Q H1
theorem s_lcL (q : tl σ H fun v H1 => LstLc K g t te vs σ Q v H1) : tLc (iList K tl) g t te vs σ H Q := q
theorem l_lcL {p : Addr} {xs : List V} (h : SqL K H p xs) (keep : V → Bool) (f : V → V) (short : xs.length ≤ 100000) (test : ∀ x ∈ xs, ∀ G, Same H G → ToB t ((wipe σ [j]).set j (some x)) G (keep x))
    (val : ∀ x ∈ xs, keep x = true → ∀ G, Same H G → ToV te ((wipe σ [j]).set j (some x)) G (f x)) (fin : ∀ D G, H D = none → Same H G → G D = some (.lst ((xs.filter keep).map f)) → Q (.ref D) G) : LstLc K (gName j) t te [j] σ Q (.ref p) H :=
  ⟨p, rfl, ⟨xs, h⟩, wlc_of walk_list (fun _ s => s.seq h) keep f short test val fin⟩
def TupLc (K : PySem.W.Frag) (g : TG) (tt : TT) (te : TE) (vs : List Nat) (σ : L2.St) (Q : VK) (x : V) (H1 : Hp) : Prop := ∃ a, x = .ref a ∧ (∃ xs, SqT K H1 a xs) ∧ WLc (Itt K a) g tt te vs σ Q H1
theorem s_lcT (q : tl σ H fun v H1 => TupLc K g t te vs σ Q v H1) : tLc (iTup K tl) g t te vs σ H Q := q
theorem l_lcT {p : Addr} {xs : List V} (h : SqT K H p xs) (keep : V → Bool) (f : V → V) (short : xs.length ≤ 100000) (test : ∀ x ∈ xs, ∀ G, Same H G → ToB t ((wipe σ [j]).set j (some x)) G (keep x))
    (val : ∀ x ∈ xs, keep x = true → ∀ G, Same H G → ToV te ((wipe σ [j]).set j (some x)) G (f x)) (fin : ∀ D G, H D = none → Same H G → G D = some (.lst ((xs.filter keep).map f)) → Q (.ref D) G) : TupLc K (gName j) t te [j] σ Q (.ref p) H :=
  ⟨p, rfl, ⟨xs, h⟩, wlc_of walk_tup (fun _ s => sqt_same s h) keep f short test val fin⟩
end

/-! ### rows of data of which each item has a property -/
section
variable {K : PySem.W.Frag} {σ : L2.St} {H : Hp} {te : TE} {tar : TA} {x y z v : V} {Q : VK} {Pr : Hp → V → Prop}
theorem l_new {o : HO} (k : ∀ p G, H p = none → Same H G → G p = some o → Q (.ref p) G) : ∀ p, H p = none → Q (.ref p) (upd H p o) := fun p n => k p _ n (Same.upd0 n) upd_same
/-- from H0 on: an expression gives a value with Pr, a row n such values -/
def ToP (H0 : Hp) (Pr : Hp → V → Prop) (te : TE) (σ : L2.St) : Prop := ∀ H, Same H0 H → ∀ Q : VK, (∀ v G, Same H G → Pr G v → Q v G) → te σ H Q
def AllA (H0 : Hp) (Pr : Hp → V → Prop) (n : Nat) (tar : TA) (σ : L2.St) : Prop := ∀ H, Same H0 H → ∀ Q : List V → Hp → Prop, (∀ vs G, Same H G → vs.length = n → (∀ v ∈ vs, Pr G v) → Q vs G) → tar σ H Q
variable {H0 : Hp}
theorem use_all {n : Nat} {Q : List V → Hp → Prop} (s : Same H0 H) (a : AllA H0 Pr n tar σ) (k : ∀ vs G, Same H G → vs.length = n → (∀ v ∈ vs, Pr G v) → Q vs G) : tar σ H Q := a H s Q k
theorem allA_nil : AllA H0 Pr 0 tNil σ := fun H _ Q k => k [] H (Same.refl H) rfl fun _ h => nomatch h
theorem allA_cons {n : Nat} (mono : ∀ G G' v, Same G G' → Pr G v → Pr G' v) (h1 : ToP H0 Pr te σ) (h2 : AllA H0 Pr n tar σ) : AllA H0 Pr (n + 1) (tCons te tar) σ := fun H s0 Q k =>
  h1 H s0 _ fun v G s p => h2 G (s0.trans s) _ fun vs G' s' len all => k (v :: vs) G' (s.trans s') (by rw [List.length_cons, len]) fun u hu => by
    rcases List.mem_cons.mp hu with e | hu
    · subst e
      exact mono G G' _ s' p
    · exact all u hu
theorem toP_c (p : ∀ G, Pr G v) : ToP H0 Pr (tC v) σ := fun H _ _ k => k v H (Same.refl H) (p H)
end

/-! ### kinds of values: texts, and what is none -/
def NotStr (K : PySem.W.Frag) (H : Hp) (x : V) : Prop := ∃ t, TyX K H x t ∧ PySem.W.kitOne K t (.type "str") = some false
theorem NotStr.non {K : PySem.W.Frag} {H : Hp} : NotStr K H .non := ⟨_, .base .non, kit_ty (by decide +kernel)⟩
theorem NotStr.bl {K : PySem.W.Frag} {H : Hp} {b : Bool} : NotStr K H (.bl b) := ⟨_, .base (.bl b), kit_ty (by decide +kernel)⟩
theorem NotStr.int {K : PySem.W.Frag} {H : Hp} {i : Int} : NotStr K H (.int i) := ⟨_, .base (.int i), kit_ty (by decide +kernel)⟩
/-- a value of the kinds that are drawn: a short text of plain signs; or none, and then not at d -/
def Txt1 (s : Str) : Prop := s.length ≤ 400 ∧ ∀ c ∈ s.cps.toList, c < 128
def ListAt (H : Hp) (a : Addr) : Prop := (∃ xs, H a = some (.lst xs)) ∨ (∃ xs, H a = some (.tup xs)) ∨ ∃ kvs, H a = some (.dK kvs)
def OddV (x : V) (H : Hp) : Prop := (∃ s, x = .str s ∧ Txt1 s) ∨ x = .non ∨ (∃ b, x = .bl b) ∨ (∃ i, x = .int i) ∨ ∃ a, x = .ref a ∧ ListAt H a
theorem ListAt.same {H G : Hp} {a : Addr} (s : Same H G) (h : ListAt H a) : ListAt G a := by
  rcases h with ⟨xs, e⟩ | ⟨xs, e⟩ | ⟨xs, e⟩
  · exact Or.inl ⟨xs, s _ _ e⟩
  · exact Or.inr (Or.inl ⟨xs, s _ _ e⟩)
  · exact Or.inr (Or.inr ⟨xs, s _ _ e⟩)
theorem ListAt.keep {H G : Hp} {a d : Addr} (s : Keep d H G) (n : a ≠ d) (h : ListAt H a) : ListAt G a := by
  rcases h with ⟨xs, e⟩ | ⟨xs, e⟩ | ⟨xs, e⟩
  · exact Or.inl ⟨xs, s _ _ n e⟩
  · exact Or.inr (Or.inl ⟨xs, s _ _ n e⟩)
  · exact Or.inr (Or.inr ⟨xs, s _ _ n e⟩)
theorem OddV.same {H G : Hp} {x : V} (s : Same H G) (h : OddV x H) : OddV x G := by
  rcases h with h | h | h | h | ⟨a, e, h⟩
  · exact Or.inl h
  · exact Or.inr (Or.inl h)
  · exact Or.inr (Or.inr (Or.inl h))
  · exact Or.inr (Or.inr (Or.inr (Or.inl h)))
  · exact Or.inr (Or.inr (Or.inr (Or.inr ⟨a, e, h.same s⟩)))
theorem OddV.keep_ne {H G : Hp} {x : V} {d : Addr} (h : OddV x H) (hd : DiceAt H d) (s : Keep d H G) (n : x ≠ .ref d) : OddV x G := by
  rcases h with h | h | h | h | ⟨a, e, h⟩
  · exact Or.inl h
  · exact Or.inr (Or.inl h)
  · exact Or.inr (Or.inr (Or.inl h))
  · exact Or.inr (Or.inr (Or.inr (Or.inl h)))
  · exact Or.inr (Or.inr (Or.inr (Or.inr ⟨a, e, h.keep s fun z => n (by rw [e, z])⟩)))
theorem OddV.dc {H G : Hp} {x : V} {d : Addr} (h : OddV x H) (c : Dc d H G) : OddV x G := by
  by_cases e : x = .ref d
  · obtain ⟨_, _, _, z⟩ := c.dice
    exact Or.inr (Or.inr (Or.inr (Or.inr ⟨d, e, Or.inl ⟨_, z⟩⟩)))
  · rcases h with h | h | h | h | ⟨a, e', h⟩
    · exact Or.inl h
    · exact Or.inr (Or.inl h)
    · exact Or.inr (Or.inr (Or.inl h))
    · exact Or.inr (Or.inr (Or.inr (Or.inl h)))
    · exact Or.inr (Or.inr (Or.inr (Or.inr ⟨a, e', h.keep c.keep fun z => e (by rw [e', z])⟩)))
theorem OddV.cases {K : PySem.W.Frag} {H : Hp} {x : V} (h : OddV x H) : (∃ s, x = .str s ∧ Txt1 s) ∨ NotStr K H x := by
  rcases h with h | rfl | ⟨b, rfl⟩ | ⟨i, rfl⟩ | ⟨a, rfl, h⟩
  · exact Or.inl h
  · exact Or.inr NotStr.non
  · exact Or.inr NotStr.bl
  · exact Or.inr NotStr.int
  · refine Or.inr ?_
    rcases h with ⟨xs, e⟩ | ⟨xs, e⟩ | ⟨xs, e⟩
    · exact ⟨_, .base (.lst e), kit_ty (by decide +kernel)⟩
    · exact ⟨_, .base (.tup e), kit_ty (by decide +kernel)⟩
    · exact ⟨_, .base (.dK e), kit_ty (by decide +kernel)⟩
/-- isinstance(x, str) -/
theorem l_isStr {K : PySem.W.Frag} {H : Hp} {Q : VK} {s : Str} (q : Q (.bl true) H) : rIsi K [.str s, .ty "str"] H Q := ⟨_, _, _, _, true, rfl, .ty "str", .base (.str s), kit_ty (by decide +kernel), q⟩
theorem l_notStr {K : PySem.W.Frag} {H : Hp} {Q : VK} {x : V} (h : NotStr K H x) (q : Q (.bl false) H) : rIsi K [x, .ty "str"] H Q := by
  obtain ⟨t, h1, h2⟩ := h
  exact ⟨_, _, _, _, false, rfl, .ty "str", h1, h2, q⟩
theorem same_keep {d : Addr} {H G J : Hp} (s : Same H G) (n : H d = none) (k : Keep d G J) : Same H J := fun b o e => k b o (ne_of_none e n) (s b o e)
/-- signs of a part of a text are signs of the text -/
theorem cutS_mem {z : Str} {lo hi : Option Int} {c : Nat} (h : c ∈ (cutS z lo hi).cps.toList) : c ∈ z.cps.toList := by
  unfold cutS at h
  exact List.mem_of_mem_drop (List.mem_of_mem_take h)
theorem cutS_len {z : Str} {lo hi : Option Int} : (cutS z lo hi).length ≤ z.length := by
  unfold cutS
  show (((z.cps.toList.drop _).take _).toArray).size ≤ z.cps.size
  rw [List.size_toArray, List.length_take, List.length_drop, Array.length_toList]
  omega
theorem append_len (y z : Str) : (y ++ z).length = y.length + z.length := by
  show (y.cps ++ z.cps).size = _
  rw [Array.size_append]
  rfl
theorem append_mem {y z : Str} {c : Nat} (h : c ∈ (y ++ z).cps.toList) : c ∈ y.cps.toList ∨ c ∈ z.cps.toList := by
  have e : (y ++ z).cps.toList = y.cps.toList ++ z.cps.toList := by
    show (y.cps ++ z.cps).toList = _
    rw [Array.toList_append]
  rw [e] at h
  exact List.mem_append.mp h
end G9

/-! Own exception classes over any built-in one: the object made, super().__init__(text), self.f = v. -/
namespace G9
open PySem PySem.Spec PyProof.Rows L2

/-! ### rows of classes: own ones, then tl -/
def refsThen (tl : List Value) : List Value → Bool
  | .ref _ :: r => refsThen tl r
  | l => l == tl
theorem refsThen_out {tl : List Value} {P : List Value → Prop} (h0 : P tl) (h1 : ∀ c r, P r → P (.ref c :: r)) : ∀ l : List Value, refsThen tl l = true → P l
  | .ref c :: r, e => h1 c r (refsThen_out h0 h1 r e)
  | [], e => by have z : ([] : List Value) = tl := beq_iff_eq.mp e; rw [z]; exact h0
  | .none :: r, e => by have z : (Value.none :: r) = tl := beq_iff_eq.mp e; rw [z]; exact h0
  | .ellipsis :: r, e => by have z : (Value.ellipsis :: r) = tl := beq_iff_eq.mp e; rw [z]; exact h0
  | .notImplemented :: r, e => by have z : (Value.notImplemented :: r) = tl := beq_iff_eq.mp e; rw [z]; exact h0
  | .bool b :: r, e => by have z : (Value.bool b :: r) = tl := beq_iff_eq.mp e; rw [z]; exact h0
  | .int a b :: r, e => by have z : (Value.int a b :: r) = tl := beq_iff_eq.mp e; rw [z]; exact h0
  | .float a b :: r, e => by have z : (Value.float a b :: r) = tl := beq_iff_eq.mp e; rw [z]; exact h0
  | .str a b :: r, e => by have z : (Value.str a b :: r) = tl := beq_iff_eq.mp e; rw [z]; exact h0
  | .bytes a b :: r, e => by have z : (Value.bytes a b :: r) = tl := beq_iff_eq.mp e; rw [z]; exact h0
  | .type a :: r, e => by have z : (Value.type a :: r) = tl := beq_iff_eq.mp e; rw [z]; exact h0
  | .builtin a :: r, e => by have z : (Value.builtin a :: r) = tl := beq_iff_eq.mp e; rw [z]; exact h0
theorem refsThen_has {tl : List Value} (n : String) {l : List Value} (e : refsThen tl l = true) : l.contains (.type n) = tl.contains (.type n) :=
  refsThen_out (P := fun l => l.contains (.type n) = tl.contains (.type n)) rfl (fun c r ih => by rw [List.contains_cons, ih]; rfl) l e
theorem refsThen_pass {tl : List Value} (self : Value) (h : refuseLoop self "__setattr__" tl = pure ()) {l : List Value} (e : refsThen tl l = true) : refuseLoop self "__setattr__" l = pure () :=
  refsThen_out (P := fun l => refuseLoop self "__setattr__" l = pure ()) h (fun c r ih => by rw [refuseLoop_ref]; exact ih) l e
theorem refsThen_some {tl : List Value} (h : tl.isEmpty = false) {l : List Value} (e : refsThen tl l = true) : l.isEmpty = false :=
  refsThen_out (P := fun l => l.isEmpty = false) h (fun c r _ => rfl) l e

/-- what a built-in class must bear so that own classes stand upon it: tl its row of classes, N the class whose __new__ makes it, I its __init__ -/
structure BaseB (B newId initId : String) (tl : List Value) : Prop where
  new : ∃ (N i0 : String) (b0 : List Value), ExcBaseFacts N newId i0 b0 ∧ tl.contains (.type N) = true
  noA : tl.contains (.type "AttributeError") = false
  noN : tl.contains (.type "NameError") = false
  obj : tl.contains (.type "object") = true
  some : tl.isEmpty = false
  pass : ∀ self : Value, refuseLoop self "__setattr__" tl = pure ()
  sup : PySem.W.KxsFacts B initId
  ini : entryFor table initId = Option.some Builtin.«BaseException.__init__»
  pln : plainId initId = true
  knd : builtinKind initId = Option.some .slot
  row : Manifest.signature? initId = Option.some ⟨.positional, "*", B, .self, [⟨"args", .varPos, false⟩]⟩
  nst : (B != "*") = true
  hB : tl.contains (.type B) = true

theorem of_facts {B newId initId : String} {tl : List Value} (F : ExcBaseFacts B newId initId tl) (sup : PySem.W.KxsFacts B initId) (obj : tl.contains (.type "object") = true) (some : tl.isEmpty = false)
    (pass : ∀ self : Value, refuseLoop self "__setattr__" tl = pure ()) : BaseB B newId initId tl :=
  ⟨⟨B, initId, tl, F, F.hasB⟩, F.noAttr, F.noName, obj, some, pass, sup, F.initEntry, F.init.plain, F.initKind, F.initRow, F.noStar, F.hasB⟩
abbrev tlVE : List Value := [.type "ValueError", .type "Exception", .type "BaseException", .type "object"]
abbrev tlIE : List Value := [.type "IndexError", .type "LookupError", .type "Exception", .type "BaseException", .type "object"]
abbrev tlLE : List Value := [.type "LookupError", .type "Exception", .type "BaseException", .type "object"]
abbrev tlOE : List Value := [.type "OverflowError", .type "ArithmeticError", .type "Exception", .type "BaseException", .type "object"]
abbrev tlRE : List Value := [.type "RuntimeError", .type "Exception", .type "BaseException", .type "object"]
abbrev tlKE : List Value := [.type "KeyError", .type "LookupError", .type "Exception", .type "BaseException", .type "object"]
theorem base_VE : BaseB "ValueError" "ValueError.__new__" "ValueError.__init__" tlVE := of_facts F.excBase_ValueError PySem.W.kxs_ValueError (by decide +kernel) rfl fun _ => by kernel_rfl
theorem base_IE : BaseB "IndexError" "IndexError.__new__" "IndexError.__init__" tlIE := of_facts F.excBase_IndexError PySem.W.kxs_IndexError (by decide +kernel) rfl fun _ => by kernel_rfl
theorem base_LE : BaseB "LookupError" "LookupError.__new__" "LookupError.__init__" tlLE := of_facts F.excBase_LookupError PySem.W.kxs_LookupError (by decide +kernel) rfl fun _ => by kernel_rfl
theorem base_OE : BaseB "OverflowError" "OverflowError.__new__" "OverflowError.__init__" tlOE := of_facts F.excBase_OverflowError PySem.W.kxs_OverflowError (by decide +kernel) rfl fun _ => by kernel_rfl
theorem base_RE : BaseB "RuntimeError" "RuntimeError.__new__" "RuntimeError.__init__" tlRE := of_facts F.excBase_RuntimeError PySem.W.kxs_RuntimeError (by decide +kernel) rfl fun _ => by kernel_rfl
theorem base_KE : BaseB "KeyError" "LookupError.__new__" "KeyError.__init__" tlKE where
  new := ⟨"LookupError", _, _, F.excBase_LookupError, by decide +kernel⟩
  noA := by decide +kernel
  noN := by decide +kernel
  obj := by decide +kernel
  some := rfl
  pass := fun _ => by kernel_rfl
  sup := ⟨by show builtinType _ = _; rw [builtinType_eq_fast]; kernel_rfl, by first | kernel_rfl | rfl⟩
  ini := excClass_KeyError.initEntry
  pln := excClass_KeyError.init.plain
  knd := by kernel_rfl
  row := by kernel_rfl
  nst := by decide +kernel
  hB := by decide +kernel

end G9

namespace PySem
namespace G9X
open G9
/-! ### an object of such a class is made: __new__, then the own __init__ -/
section
variable {prog : Program} {w : World} {A : Around} {E : Value → Shared → Prop} {R : Result → Shared → Prop} {h : Heap} {g : Array GenState} {d : Drawn} {t : Nat} {os : OsState}
variable {nm q : Str} {C N : Addr} {bs bm tl : List Value} {hdct : Bool} {sn : List Str} {sub : List Value} {ab : Bool} {col : Option Bool} {dd : Option Addr} {k0 k1 k2 k3 k5 : Option Value} {B newId initId : String}
theorem newX_check {M : Model} {Nn i0 : String} {b0 : List Value} (F : ExcBaseFacts Nn newId i0 b0) (hN : bm.contains (.type Nn) = true) {rest : List Value} {Q : Unit → Shared → Prop}
    (hC : h.get? C = some (excClassObj nm q C N bs bm hdct sn sub ab col dd k0 k1 k2 k3 k5 newId)) (hq : Q () ⟨h, g, d, t, os⟩) : wpAny M A (checkBuiltinCall newId ⟨.ref C :: rest, []⟩) Q E ⟨h, g, d, t, os⟩ := by
  have has : (Value.ref C :: bm).contains (.type Nn) = true := by rw [List.contains_cons, hN, Bool.or_true]
  have star := F.noStar
  simp only [checkBuiltinCall, F.newKind, F.newSplit, F.newRow]
  repeat (first | refine wpAny_loadPart_at hC ?_ | (refine wpAny_isSubtype_exc hC ?_; rw [has]) | refine wpAny_staticBase_exc hC ?_ | refine wpAny_madeBy_exc hC ?_ | simp only [bne_self_eq_false, Bool.false_eq_true, if_false] | wp_step)
  exact hq
theorem newX_code {Nn i0 : String} {b0 : List Value} (F : ExcBaseFacts Nn newId i0 b0) (hN : bm.contains (.type Nn) = true) (hA : bm.contains (.type "AttributeError") = false) (hE : bm.contains (.type "NameError") = false) {rest : List Value}
    (hC : h.get? C = some (excClassObj nm q C N bs bm hdct sn sub ab col dd k0 k1 k2 k3 k5 newId)) (small : rest.length ≤ sizeLine)
    (hq : R (.ok (.ret (.ref (h.objs.size + 1)))) ⟨(h.push { cls := .type "tuple", data := .seq rest.toArray }).push (HandSPX.excO C h.objs.size), g, d, t, os⟩) :
    codeAny (model prog w) A (.builtin newId ⟨.ref C :: rest, []⟩) R ⟨h, g, d, t, os⟩ := by
  have ends := F.ends
  have c1 : (Value.ref C :: bm).contains (.type Nn) = true := by rw [List.contains_cons, hN, Bool.or_true]
  have c2 : (Value.ref C :: bm).contains (.type "AttributeError") = false := by rw [List.contains_cons, hA]; rfl
  have c3 : (Value.ref C :: bm).contains (.type "NameError") = false := by rw [List.contains_cons, hE]; rfl
  refine codeAny_builtinAt F.entry ?_
  unfold Builtin.«BaseException.__new__»
  refine wpAt_bind ?_
  show wpAt _ _ _ (stack >>= _) _ _ _
  refine wpAt_bind (wpAt_stack fun p below => wpAt_of_wpAny ?_)
  wp_walk
  refine wpAt_of_wpAny ?_
  rw [F.owner]
  repeat (first | with_reducible refine wpAny_madeHere_exc F.canon hC ?_ | with_reducible refine wpAny_loadPart_at hC ?_ | (with_reducible refine wpAny_isSubtype_exc hC ?_; first | rw [c1] | rw [c2] | rw [c3]) | wp_step)
  show R _ _
  rw [Heap.size_push]
  exact hq
/-- type.__call__ of such a class -/
theorem makeX_in (T : BaseB B newId initId tl) (hb : refsThen tl bm = true) {rest : List Value} {fI : Addr} {Q : Fin → Shared → Prop}
    (hC : h.get? C = some (excClassObj nm q C N bs bm hdct sn sub ab col dd k0 k1 k2 k3 k5 newId))
    (hi : W.Looks (model prog w) h (typeLookup (.ref C) "__init__") (some (.ref fI))) (hbind : ∀ self, W.Looks (model prog w) h (bindSpecial (.ref fI) self) (.ref fI, [self])) (small : rest.length ≤ sizeLine)
    (hq : codeAny (model prog w) A (.call (.ref fI) ⟨.ref (h.objs.size + 1) :: rest, []⟩)
      (fun r s' => match r with | .ok (.ret v) => v = .none ∧ Q (.done (.ret (.ref (h.objs.size + 1)))) s' | .ok _ => False | .error e => E e s')
      ⟨(h.push (W.kdv_tup rest)).push (HandSPX.excO C h.objs.size), g, d, t, os⟩) :
    wpAny (model prog w) A (Builtin.«type.__call__» ⟨.ref C :: rest, []⟩) Q E ⟨h, g, d, t, os⟩ := by
  obtain ⟨Nn, i0, b0, F, hN⟩ := T.new
  repeat (first | with_reducible refine wpAny_loadPart_at hC ?_ | with_reducible refine wpAny_madeBy_exc hC ?_ | wp_step)
  refine codeAny_call_builtin_code (Code.quiet_builtin _ F.quiet) (newX_check F ((refsThen_has Nn hb).trans hN) hC ?_)
  refine newX_code F ((refsThen_has Nn hb).trans hN) ((refsThen_has _ hb).trans T.noA) ((refsThen_has _ hb).trans T.noN) hC small ?_
  show wpAny _ _ _ _ _ _
  have k : ∀ b o, h.get? b = some o → ((h.push (W.kdv_tup rest)).push (HandSPX.excO C h.objs.size)).get? b = some o := fun b o e => Heap.get?_push_of_some _ (Heap.get?_push_of_some _ e)
  have hC1 := k _ _ hC
  have here : ((h.push (W.kdv_tup rest)).push (HandSPX.excO C h.objs.size)).get? (h.objs.size + 1) = some (HandSPX.excO C h.objs.size) := by heap_get
  have self : (Value.ref C :: bm).contains (.ref C) = true := by simp
  have i1 := hi.keeps k
  have b1 := (hbind (.ref (h.objs.size + 1))).keeps k
  unfold isInstance
  repeat (first | with_reducible refine wpAny_loadPart_at here ?_ | (with_reducible refine wpAny_isSubtype_exc hC1 ?_; rw [self]) | wp_step)
  show wpAny _ _ (typeLookup (.ref C) _) _ _ _
  refine i1.at (wpAny_holding (wpAny_bind (b1.at (wpAny_bind (wpAny_call (codeAny_mono hq fun r s' z => ?_))))))
  rcases r with e | (v | _ | _ | _) <;> first | exact z | exact z.elim | skip
  obtain ⟨rfl, z⟩ := z
  first
    | exact wpAny_pure (wpAny_pure z)
    | (wp_walk; exact z)
/-- C(rest): the object, then its __init__ -/
theorem makeX (T : BaseB B newId initId tl) (hb : refsThen tl bm = true) {rest : List Value} {fI : Addr}
    (hC : h.get? C = some (excClassObj nm q C N bs bm hdct sn sub ab col dd k0 k1 k2 k3 k5 newId))
    (hi : W.Looks (model prog w) h (typeLookup (.ref C) "__init__") (some (.ref fI))) (hbind : ∀ self, W.Looks (model prog w) h (bindSpecial (.ref fI) self) (.ref fI, [self])) (small : rest.length ≤ sizeLine)
    (hq : codeAny (model prog w) (A.under (.builtin "type.__call__" ⟨.ref C :: rest, []⟩)) (.call (.ref fI) ⟨.ref (h.objs.size + 1) :: rest, []⟩) (W.InitBack (h.objs.size + 1) R)
      ⟨(h.push (W.kdv_tup rest)).push (HandSPX.excO C h.objs.size), g, d, t, os⟩) :
    codeAny (model prog w) A (.call (.ref C) ⟨rest, []⟩) R ⟨h, g, d, t, os⟩ := by
  have lk := tc_lookup
  have bd := tc_bind (.ref C)
  have ty : (⟨h, g, d, t, os⟩ : Shared).TypeIs (.ref C) "type" := ⟨_, hC, rfl⟩
  refine codeAny_of_tree ?_
  show wpAny _ _ (callAny (.ref C) _) _ _ _
  repeat (any_goals (first | assumption | with_reducible refine wpAny_loadPart_at hC ?_ | wp_step))
  refine ⟨rfl, ?_⟩
  refine codeAny_call_builtin_at (Code.quiet_builtin _ (by decide +kernel)) entry_typeCall (wpAny_check_type_call_sub hC (makeX_in T hb hC hi hbind small ?_))
  refine codeAny_mono hq fun r s' z => ?_
  rcases r with e | (v | _ | _ | _) <;> exact z

/-! ### the bound __init__ of the built-in class: the args are laid anew -/
abbrev mwO (i : String) (x : Addr) : Obj := { cls := .type "method-wrapper", data := .fields #[.builtin i, .ref x] }
theorem callB (T : BaseB B newId initId tl) {u e t0 : Addr} {rest : List Value} {Q : Value → Shared → Prop}
    (hC : h.get? C = some (excClassObj nm q C N bs bm hdct sn sub ab col dd k0 k1 k2 k3 k5 newId)) (he : h.get? e = some (HandSPX.excO C t0)) (hu : h.get? u = some (mwO initId e)) (small : rest.length ≤ sizeLine)
    (hq : ∀ h' t1, (∀ b o, b ≠ e → h.get? b = some o → h'.get? b = some o) → h'.get? e = some (HandSPX.excO C t1) → Q .none ⟨h', g, d, t, os⟩) :
    wpAny (model prog w) A (call (.ref u) rest) Q E ⟨h, g, d, t, os⟩ := by
  refine wpAny_call (codeAny_of_tree ?_)
  show wpAny _ A.in1 (callAny (.ref u) ⟨rest, []⟩) _ _ _
  simp only [callAny]
  refine wpAny_bind (wpAny_load hu ?_)
  simp only [mwO, show (Value.type "method-wrapper" == Value.type "method" || Value.type "method-wrapper" == Value.type "builtin_function_or_method" || Value.type "method-wrapper" == Value.type "method-wrapper") = true by decide, if_true]
  refine W.KFB.if_so (by decide) ?_
  refine wpAny_bind ?_
  · have star := T.nst
    simp only [checkBoundCall, T.knd, T.row]
    repeat (first | (with_reducible refine wpAny_loadPart_at he ?_) | with_reducible refine wpAny_loadPart_at hC ?_ | wp_step)
    refine wpAny_onRaise ?_
    rw [show ∀ (a b : String) (n : Nat), Bind.check ⟨.positional, "*", B, .self, [⟨"args", .varPos, false⟩]⟩ a b n (List.map (fun x => x.fst) ({ pos := Value.ref e :: rest } : Args).kw) = pure () from
      fun a b n => check_star_args _ _ _ _ _ _]
    refine wpAny_pure ?_
    refine wpAny_bind (wpAny_pure (wpAny_pure ?_))
    refine ⟨plainId_quiet T.pln _, codeAny_builtin T.ini ?_⟩
    exact W.exc_init_tree (cls := .ref C) (t0 := t0) (dv := none) (c2 := .none) (c3 := .none) (b4 := .bool false) he small fun h' k e' _ => hq h' _ k e'
end
end G9X
end PySem

namespace PySem
namespace G9X
open G9 Builtin Builtin.ObjectAttr
section
variable {prog : Program} {w : World} {A : Around} {R : Result → Shared → Prop} {hp : Heap} {g : Array GenState} {d : Drawn} {t : Nat} {os : OsState} {B newId initId : String} {tl : List Value}
/-- self.name = v on an exception that has no dict yet -/
theorem storeX (T : BaseB B newId initId tl) {K : W.Frag} {name : Str} {tk : Tok} {v : Value} {x C : Addr} {fv : Array Value} {cd : ClassData}
    (X : K.In hp) (hx : hp.get? x = some { cls := .ref C, data := .fields fv }) (hcd : W.clsIn K C = some cd) (hm : refsThen tl cd.mro = true) (hh : cd.hasDict = true) (ha : W.findIn K (.ref C) name = some none)
    (hq : ∀ h' tk' dx, (∀ b o, b ≠ x → hp.get? b = some o → h'.get? b = some o) → hp.objs.size ≤ dx → dx ≠ x → h'.get? x = some { cls := .ref C, dict := some dx, data := .fields fv } →
      h'.Ns1 dx (fun y => if y = name then some v else none) → R (.ok (.ret .none)) ⟨h', g, d, tk', os⟩) :
    codeAny (model prog w) A (.call (.builtin "object.__setattr__") ⟨[.ref x, .str name tk, v], []⟩) R ⟨hp, g, d, t, os⟩ := by
  have I : W.InstAt hp x { cls := .ref C, data := .fields fv } C none := ⟨hx, rfl, rfl, trivial⟩
  have S := F.store_object
  have here : cd.mro.contains (.type "object") = true := (refsThen_has "object" hm).trans T.obj
  have xs : x ≠ hp.objs.size := Nat.ne_of_lt (Heap.lt_size hx)
  have isObj : W.Looks (model prog w) hp (isInstance (.ref x) (.type "object")) true :=
    I.type.andThen (W.looks_mroIn X (by unfold W.mroIn; rw [hcd, Option.bind_some, if_neg (by rw [refsThen_some T.some hm]; decide), here]))
  refine codeAny_call_builtin S.slot.plain S.entry (@W.check_slot (model prog w) _ _ ⟨hp, g, d, t, os⟩ "object.__setattr__" "object" "__setattr__" (.ref x) [.str name tk, v] [] _ S.kind S.split isObj (S.args (.ref x) (.str name tk) v) ?_)
  have row : W.Looks (model prog w) hp (mroOf (.ref C)) cd.mro := (W.looks_clsIn X hcd).andThen .now
  have noTaker : W.Looks (model prog w) hp (storeTaker? none) none := .now
  have cls : W.Looks (model prog w) hp (classData C) cd := W.looks_clsIn X hcd
  rw [W.osa_eq, refuse_eq]
  refine wpAny_bind (wpAny_bind (I.type.at (wpAny_bind (row.at ?_))))
  rw [refsThen_pass _ (T.pass _) hm]
  refine wpAny_pure (wpAny_bind (I.type.at (wpAny_bind ((W.looks_findIn X ha).at (wpAny_bind (noTaker.at ?_))))))
  show wpAny _ _ (storeInOwnDict (.ref x) (.ref C) (.str name tk) name v false) _ _ _
  obtain ⟨nm, bs, mro, ns, qn, hd, sn, sb, ab, col, del⟩ := cd
  dsimp only at hh
  subst hh
  unfold storeInOwnDict ownDictForStores
  repeat (first | with_reducible refine HandSPX.store_in_new ?_ ?_ | with_reducible refine wpAny_loadPart_at hx ?_ | with_reducible refine cls.at ?_ | wp_step)
  · exact ⟨_, #[], _, (Heap.get?_update_ne _ _ _ _ xs.symm).trans (Heap.get?_push_at rfl rfl), rfl, fun e he => absurd he (by simp), fun _ => rfl⟩
  · intro h' tk' hn' hs
    have there : (hp.push { cls := .type "dict", data := .dict #[] }).get? x = some { cls := .ref C, data := .fields fv } := Heap.get?_push_of_some _ hx
    refine hq h' tk' hp.objs.size (fun b o hb ho => ?_) (Nat.le_refl _) xs.symm ?_ hn'
    · exact (hs.2 b (Nat.ne_of_lt (Heap.lt_size ho))).trans ((Heap.get?_update_ne _ _ _ _ hb).trans (Heap.get?_push_of_some _ ho))
    · exact (hs.2 x xs).trans (Heap.get?_update_self _ there rfl)
end
end G9X
end PySem

namespace G9
open PySem PySem.Spec PyProof.Rows L2
/-- what the written part says of an own exception class with an own __init__ -/
structure OexB (B newId initId : String) (tl : List Value) (K : PySem.W.Frag) (C : Addr) : Prop where
  T : BaseB B newId initId tl
  cls : ∃ nm q N bs bm sn sub ab col dd k0 k1 k2 k3 k5, K.lookup C = some (excClassObj nm q C N bs bm true sn sub ab col dd k0 k1 k2 k3 k5 newId) ∧ refsThen tl bm = true
  sa : PySem.W.findIn K (.ref C) "__setattr__" = some (some (.builtin "object.__setattr__"))
  exC : PySem.W.subIn K (.ref C) (.type "BaseException") = some true
  tyC : PySem.W.typeIn K (.ref C) = some (.type "type")
  kC : PySem.W.keepIn K (.ref C) = true
  hasB : PySem.W.subIn K (.ref C) (.type B) = some true
  opq : PySem.W.nsIn K cStatics "thirdparty.any" = some none
  sup : PySem.W.ks_superIn K C C "__init__" = some (some (.builtin initId))
section
variable {B newId initId : String} {tl : List Value} {X : Cx} {pins : List (Addr × Obj)} {σ : L2.St} {H : Hp} {s : Shared} {a C dx : Addr} {f : Str} {y : V} {u : Value} {fs : List (Str × V)} {E : Value → Shared → Prop} {A : Around}
/-- self.f = y, the first one -/
theorem put_first {Q : Unit → Shared → Prop} (T : OexB B newId initId tl X.K C) (I : Inv X pins σ H s) (e : H a = some (exo a C none)) (hno : PySem.W.findIn X.K (.ref C) f = some none) (ry : RelV y u)
    (h : ∀ dx s', H dx = none → dx ≠ a → Inv X pins σ (upd (upd H dx (exd dx [(f, y)])) a (exo a C (some dx))) s' → Q () s') : wpAny (model X.prog X.w) A (setAttr (.ref a) f u) Q E s := by
  obtain ⟨nm, q, N, bs, bm, sn, sub, ab, col, dd, k0, k1, k2, k3, k5, hC, hbm⟩ := T.cls
  have cl : PySem.W.clsIn X.K C = some { name := nm, bases := bs, mro := .ref C :: bm, ns := N, qualname := q, hasDict := true, slotNames := sn, subclasses := sub, abstract := ab, collection := col, hasDel := false } := by unfold PySem.W.clsIn; rw [hC] <;> rfl
  obtain ⟨t1, ho⟩ := exo_at I.hok e
  obtain ⟨hp, g, d, t, os⟩ := s
  refine PySem.W.set_plain I.kIn (ox := { cls := .ref C, dict := none, data := .fields #[.ref t1, .none, .none, .none, .bool false, .none] }) (od := none) ⟨ho, rfl, rfl, trivial⟩ T.sa ?_
  refine PySem.G9X.storeX T.T I.kIn ho cl (show refsThen tl (.ref C :: bm) = true from hbm) rfl hno fun h' tk' dx k dn dne hx hn => ?_
  have fresh : H dx = none := I.hok.fresh dn
  have older : ∀ {b : Addr} {o : Obj}, hp.get? b = some o → b ≠ dx := fun q z => absurd (Heap.lt_size q) (by rw [z]; exact Nat.not_lt.mpr dn)
  have other : ∀ {b : Addr}, H b = none → b ≠ a := fun n z => by
    rw [z, e] at n
    cases n
  refine h dx _ fresh dne (I.un (t' := tk') ⟨fun b o q n _ _ => k b o (other n) q, fun b o q n _ _ => ⟨o.slots, k b o (other n) q⟩, fun b o q n _ => ?_, fun b o q _ => ?_, fun b xs q => ?_, fun b o v q => ?_, fun b ps q => ⟨#[], ?_⟩⟩ fun b o q => ?_)
  · rw [upd_ne (other n), upd_ne (older q)]
    exact n
  · by_cases hb : b = a
    · exact ⟨_, by rw [hb]; exact hx⟩
    · exact ⟨o, k b o hb q⟩
  · rw [upd_ne (at_ne e q exo_tup), upd_ne (ne_of_none q fresh)]
    exact q
  · rw [upd_ne (at_ne e q exo_frz), upd_ne (ne_of_none q fresh)]
    exact q
  · rw [upd_ne (at_ne e q exo_tbl), upd_ne (ne_of_none q fresh), q]
    simp
  · by_cases hb : b = a
    · subst hb
      rw [upd_same] at q
      cases q
      exact exo_ok hx
    rw [upd_ne hb] at q
    by_cases hd : b = dx
    · subst hd
      rw [upd_same] at q
      cases q
      exact exd_ok hn (relO_put (fs := []) ry fun g => True.intro)
    rw [upd_ne hd] at q
    refine (I.hok b o q).stay (fun c v hc z => k c v ?_ z) (fun c hc => ?_) fun c xs hc => ?_
    · rcases hc with hc | hc
      · rw [hc]
        exact hb
      · exact at_ne e hc exo_own
    · rw [upd_ne (at_ne e hc exo_own), upd_ne (ne_of_none hc fresh)]
      exact hc
    · rw [upd_ne (at_ne e hc exo_tup), upd_ne (ne_of_none hc fresh)]
      exact hc
/-- the bound __init__ of the built-in class, called: the object's args change, nothing that is told of it -/
theorem init_bound {us : List Value} {ub : Addr} {Q : Value → Shared → Prop} (T : OexB B newId initId tl X.K C) (I : Inv X pins σ H s) (e : H a = some (exo a C none)) (hu : s.heap.get? ub = some (PySem.G9X.mwO initId a)) (small : us.length ≤ sizeLine)
    (h : ∀ s', Inv X pins σ H s' → Q .none s') : wpAny (model X.prog X.w) A (call (.ref ub) us) Q E s := by
  obtain ⟨nm, q, N, bs, bm, sn, sub, ab, col, dd, k0, k1, k2, k3, k5, hC, hbm⟩ := T.cls
  obtain ⟨t1, ho⟩ := exo_at I.hok e
  obtain ⟨hp, g, d, t, os⟩ := s
  refine PySem.G9X.callB T.T (I.kIn _ _ hC) ho hu small fun h' t2 k hx => ?_
  have J := I.write (t' := t) (x := a) (e := a) (o := exo a C none) (by rw [e]; exact True.intro) (.inl rfl) k ⟨_, hx⟩ (exo_ok hx)
  have same : upd H a (exo a C none) = H := by
    funext b
    by_cases hb : b = a
    · rw [hb, upd_same, e]
    · rw [upd_ne hb]
  rw [same] at J
  exact h _ J
end
/-- self.f = e -/
def tPut (B newId initId : String) (tl : List Value) (K : PySem.W.Frag) (f : Str) (to te : TE) : TS := fun D σ H => te σ H fun y H1 => to σ H1 fun x H2 => ∃ a C : Addr, x = .ref a ∧ OexB B newId initId tl K C ∧ PySem.W.findIn K (.ref C) f = some none ∧
  H2 a = some (exo a C none) ∧ ∀ dx, H2 dx = none → dx ≠ a → D.nx σ (upd (upd H2 dx (exd dx [(f, y)])) a (exo a C (some dx)))
theorem ps_put {B newId initId : String} {tl : List Value} {X : Cx} {o e : Expr} {to te : TE} {f : Str} {p' pos : Pos} (ho : PE X o to) (he : PE X e te) (hs : swapsWith e (some (.Attribute o f p')) pos.line X.env = pure false := by rfl) :
    PS X (.Assign [.Attribute o f p'] e pos) (tPut B newId initId tl X.K f to te) := by
  refine ⟨fun pins s σ H D I h => ?_⟩
  refine plainObj_wpAny_Assign_Attribute (thn (he.run pins s σ H _ I h) fun v s1 ⟨y, H1, I1, r1, q1⟩ => thn (ho.run pins s1 σ H1 _ I1 q1) fun u s2 ⟨x, H2, I2, r2, a, C, ex, T, hno, ea, q⟩ => ?_) hs
  subst ex
  obtain rfl : u = Value.ref a := r2
  exact put_first T I2 ea hno r1 fun dx s' n ne J => ⟨σ, _, J, q dx n ne⟩
end G9

namespace G9
open PySem PySem.Spec PyProof.Rows L2
/-! ### a def in a class whose body says super().__init__(..): its closure, and its body walked -/
/-- what a def in the class C must be so that super() in it is C's: f its address, fd the def -/
structure SupFn (P : Program) (K : PySem.W.Frag) (mg : Str → Option Value) (qual me : Str) (st : Stmt) (f C : Addr) (fd : FuncData) : Prop where
  ex : ∃ (oc kV doc pm ct ccl cl : Value) (od an cdd cld : Option Addr) (osl ccs csl : Array (Option Value)) (cda cc : Addr) (vs : Array Value) (file : Str) (tf : Tok),
    fd = PySem.W.fnX "__init__" qual (defArgs st) (defBody st) (defScope st) [("__class__", cc)] .none kV doc pm an (.ref cda) ct ∧ K.lookup f = some ⟨oc, od, .func fd, osl⟩ ∧ PySem.W.codeIn K (.ref cda) qual = true ∧
    K.lookup cda = some ⟨ccl, cdd, .fields vs, ccs⟩ ∧ vs[2]? = some (.str file tf) ∧ ((P.main.file : Str) == file) = true ∧ K.lookup cc = some ⟨cl, cld, .cell (some (.ref C)), csl⟩
  top : (P.main.scope.names.lookup ("super" : Str)).isSome = false
  sup : mg "super" = none
  ar : ((defArgs st).posonlyargs ++ (defArgs st).args).head?.map (·.arg) = some me
/-- the scope of such a def -/
structure SupScope (N ps : List Str) (me : Str) (sc : Scope) : Prop where
  kind : sc.kind = .function
  co : sc.isCoroutine = false
  gen : sc.isGenerator = false
  nd : N.Nodup
  pre : N.take ps.length = ps
  loc : ∀ x ∈ ps, sc.names.lookup x = some .local
  nocell : ∀ y ∈ sc.names, y.2 ≠ .cell
  free : ∀ y ∈ sc.names, y.2 = .free → y.1 = ("__class__" : Str)
  cls : sc.names.lookup ("__class__" : Str) = some .free
  sup : sc.names.lookup ("super" : Str) = some .globalImplicit
  me : me ∈ ps

/-- the context of its body -/
def cxS (CX : CXT) (P : Program) (w : World) (K : PySem.W.Frag) (mg : Str → Option Value) (base : Heap) (N : List Str) (qual : Str) (scope : Scope) (f : Addr) (cdv : Value) (cc : Addr) (A : Around) (fs : List Env) (s : Shared) (H : Hp) (E : XK) : Cx where
  prog := P
  w := w
  K := K
  mg := mg
  base := base
  A := A.deeper (PySem.W.envX qual scope s.heap.objs.size f cdv [("__class__", cc)])
  N := N
  s_0 := s
  H_0 := H
  env := PySem.W.envX qual scope s.heap.objs.size f cdv [("__class__", cc)]
  outer := fs
  stack := PySem.W.envX qual scope s.heap.objs.size f cdv [("__class__", cc)] :: fs
  ex := []
  calm := true
  fn := fun _ => false
  pn := []
  xe := fun e s' => wpAny (model P w) (A.deeper (PySem.W.envX qual scope s.heap.objs.size f cdv [("__class__", cc)])) (leaving (PySem.W.envX qual scope s.heap.objs.size f cdv [("__class__", cc)]) e) (fun _ s'' => CX fs H s E e s'') (fun e' s'' => CX fs H s E e' s'') s'

section
variable {CX : CXT} {P : Program} {w : World} {K : PySem.W.Frag} {mg : Str → Option Value} {base : Heap} {N ps : List Str} {qual me : Str} {scope : Scope} {f cc C : Addr} {cdv : Value} {A : Around} {fs : List Env} {s : Shared} {H : Hp} {E : XK} {us : List Value} {vs : List V}
theorem lookup_one : ∀ {l : List (Str × Value)} {x : Str} {u : Value}, (x, u) ∈ l → (∀ v, (x, v) ∈ l → v = u) → l.lookup x = some u
  | [], _, _, h, _ => nomatch h
  | (y, v) :: l, x, u, h, q => by
    by_cases e : x = y
    · subst e
      have z := q v List.mem_cons_self
      subst z
      simp [List.lookup]
    · have b : (x == y) = false := by simpa using e
      simp only [List.lookup, b]
      refine lookup_one ?_ fun v hv => q v (List.mem_cons_of_mem _ hv)
      rcases List.mem_cons.mp h with z | z
      · cases z
        exact absurd rfl e
      · exact z
theorem lookup_zip {ps : List Str} {us : List Value} {i : Nat} {x : Str} {u : Value} (nd : ps.Nodup) (hx : ps[i]? = some x) (hu : us[i]? = some u) : (ps.zip us).reverse.lookup x = some u := by
  refine lookup_one ?_ fun v hv => ?_
  · rw [List.mem_reverse, List.mem_iff_getElem?]
    exact ⟨i, by rw [List.getElem?_zip_eq_some]; exact ⟨hx, hu⟩⟩
  · rw [List.mem_reverse, List.mem_iff_getElem?] at hv
    obtain ⟨j, e⟩ := hv
    rw [List.getElem?_zip_eq_some] at e
    have ij : j = i := nodup_ix nd e.1 hx
    subst ij
    have z := e.2.symm.trans hu
    exact Option.some.inj z

theorem inv_startS (S : SupScope N ps me scope) (hd : A.handled = none) (e0 : Env0 P w K mg base A fs s H) (hl : vs.length = ps.length) (r : Vals vs us) (hc : ∃ (cl : Value) (cld : Option Addr) (csl : Array (Option Value)), K.lookup cc = some ⟨cl, cld, .cell (some (.ref C)), csl⟩)
    {h1 : Heap} {tk : Nat} (hns : h1.Ns s.heap.objs.size (fun x => (ps.zip us).reverse.lookup x)) (hk : ∀ b o, s.heap.get? b = some o → h1.get? b = some o) :
    Inv (cxS CX P w K mg base N qual scope f cdv cc A fs s H E) [] (start N vs) H { s with heap := h1, toks := tk } := by
  obtain ⟨cl, cld, csl, hc⟩ := hc
  have cell : ∀ x c, (cxS CX P w K mg base N qual scope f cdv cc A fs s H E).env.cells.lookup x = some c → x = "__class__" ∧ c = cc := by
    intro x c e
    have e' : List.lookup x [(("__class__" : Str), cc)] = some c := e
    by_cases hx : x = "__class__"
    · subst hx
      have z : some cc = some c := by simpa [List.lookup] using e'
      exact ⟨rfl, (Option.some.inj z).symm⟩
    · have b : (x == ("__class__" : Str)) = false := by simpa using hx
      simp [List.lookup, b] at e'
  have baseC := e0.mod.kin _ _ hc
  have noX : ∀ b : Addr, b ∉ (cxS CX P w K mg base N qual scope f cdv cc A fs s H E).ex := fun b z => nomatch z
  have ul : us.length = ps.length := r.length.symm.trans hl
  have pl : ps.length ≤ N.length := by have := congrArg List.length S.pre; rw [List.length_take] at this; omega
  refine ⟨⟨e0.mod, S.kind, rfl, rfl, Nat.le_refl _, fun x y c h1 h2 => ?_, fun x hx => ?_, (fun x c h => nomatch h), fun _ => hd, Around.frames_deeper e0.frames, .inr ⟨rfl, rfl⟩, fun b z => absurd z (noX b), e0.bs, e0.bsz, fun b _ _ => noX b, fun b z => absurd z (noX b), e0.funs, e0.frf⟩,
    rfl, e0.bare, Un.kept hk, ⟨_, hns, fun i x v h1 h2 h3 => ?_⟩, fun x c e => ?_, e0.hok.fresh (Nat.le_refl _), fun x c e => ?_, (fun p hp => nomatch hp), e0.hok.kept hk, ?_⟩
  · exact (cell x c h1).1.trans (cell y c h2).1.symm
  · have free : x = "__class__" := by
      have hx' : scope.names.lookup x = some .cell ∨ scope.names.lookup x = some .free := hx
      rcases hx' with q | q
      · exact absurd rfl (S.nocell _ (PySem.mem_of_lookup q))
      · exact S.free _ (PySem.mem_of_lookup q) rfl
    subst free
    exact ⟨cc, rfl⟩
  · have iv : i < vs.length := by
      unfold L2.start at h2
      rw [List.getElem?_append] at h2
      split at h2
      · rename_i q
        simpa using q
      · rw [List.getElem?_replicate] at h2
        split at h2 <;> cases h2
    have e2 : vs[i]? = some v := by
      unfold L2.start at h2
      rw [List.getElem?_append_left (by simpa using iv), List.getElem?_map] at h2
      cases q : vs[i]? with
      | none => rw [q] at h2; cases h2
      | some z => rw [q] at h2; cases h2; rfl
    have e1 : ps[i]? = some x := by
      rw [← S.pre, List.getElem?_take, if_pos (by omega)]
      exact h1
    obtain ⟨u, hu, ru⟩ := r.get e2
    refine ⟨u, ru, Or.inl ⟨S.loc x (List.mem_of_getElem? e1), ?_⟩⟩
    refine lookup_zip ?_ e1 hu
    rw [← S.pre]
    exact S.nd.sublist (List.take_sublist _ _)
  · obtain ⟨_, rfl⟩ := cell x c e
    exact ⟨_, ⟨_, hk _ _ (e0.bs _ _ baseC).1, rfl⟩⟩
  · obtain ⟨_, rfl⟩ := cell x c e
    exact (e0.bs _ _ baseC).2
  · show (L2.start N vs).length = N.length
    unfold L2.start
    simp
    omega
end
end G9

namespace G9
open PySem PySem.Spec PyProof.Rows L2
section
variable {B newId initId : String} {tl : List Value} {X : Cx} {pins : List (Addr × Obj)} {σ : L2.St} {H : Hp} {s : Shared} {a C : Addr}
/-- super().__init__ of an object that is being made: bound -/
theorem get_sup {so : Addr} {pl : Sem Bool} {Q : Value × List Value → Shared → Prop} (T : OexB B newId initId tl X.K C) (I : Inv X pins σ H s) (e : H a = some (exo a C none)) (hs : s.heap.get? so = some (PySem.W.ks_superObj C a C))
    (h : ∀ u s', Inv X ((u, PySem.G9X.mwO initId a) :: pins) σ H s' → Q (.ref u, []) s') : wpAny (model X.prog X.w) X.A (getMethod (.ref so) "__init__" pl) Q X.xe s := by
  obtain ⟨t1, ho⟩ := exo_at I.hok e
  have J : PySem.W.InstAt s.heap a { cls := .ref C, dict := none, data := .fields #[.ref t1, .none, .none, .none, .bool false, .none] } C none := ⟨ho, rfl, rfl, trivial⟩
  have K := I.kIn
  obtain ⟨hp, g, d, t, os⟩ := s
  cases hc : PySem.W.clsIn X.K C with
  | none =>
    have z := T.sup
    unfold PySem.W.ks_superIn at z
    rw [hc] at z
    cases z
  | some cd =>
    have z := T.sup
    unfold PySem.W.ks_superIn at z
    rw [hc] at z
    refine PySem.W.kxs_getMethod T.T.sup hs (PySem.W.looks_opaque K T.opq) (l₀ := cd.mro) ?_ rfl K z (J.type.andThen (PySem.W.looks_subIn K T.hasB)) (PySem.W.ks_ne K J hc) (by decide) ?_
    · exact fun A Q E s k q => wpAny_bind ((PySem.W.looks_clsIn K hc) A _ E s k (wpAny_pure q))
    · exact h _ _ (ClX.pin_new I (fun b o q => Heap.get?_push_of_some _ q) (Nat.le_refl _) (Heap.get?_push_size _ rfl) fun v => nofun)
/-- super().__init__(e) -/
theorem sup_stmt {body : List Stmt} {ej : Expr} {te : TE} {p0 p1 p2 p7 p8 : Pos} {D : Ends} {f cc cda : Addr} {me : Str} {fd : FuncData} {oc ccl cl : Value} {od cdd cld : Option Addr} {osl ccs csl : Array (Option Value)} {vs : Array Value} {file : Str} {tf : Tok}
    (T : OexB B newId initId tl X.K C) (I : Inv X [] σ H s) (eH : H a = some (exo a C none))
    (hfd : X.K.lookup f = some ⟨oc, od, .func fd, osl⟩) (har : (fd.params.posonlyargs ++ fd.params.args).head?.map (·.arg) = some me)
    (hcode : X.K.lookup cda = some ⟨ccl, cdd, .fields vs, ccs⟩) (hvs : vs[2]? = some (.str file tf)) (hfile : ((X.prog.main.file : Str) == file) = true) (hcell : X.K.lookup cc = some ⟨cl, cld, .cell (some (.ref C)), csl⟩)
    (htop : (X.prog.main.scope.names.lookup ("super" : Str)).isSome = false) (hsup : X.mg "super" = none)
    (ef : X.env.func = some f) (ec : X.env.code = .ref cda) (ecl : X.env.cells.lookup ("__class__" : Str) = some cc) (ks : X.env.kindOf "super" = some .globalImplicit) (kc : X.env.kindOf "__class__" = some .free) (km : X.env.kindOf me = some .local)
    {i : Nat} (hi : X.N[i]? = some me) (hσ : σ[i]? = some (some (.ref a)))
    (he : PE X ej te) {pl : Sem Bool} (hev : eval (.Call (.Attribute (.Call (.Name "super" p0) [] [] p1) "__init__" p2) [ej] [] p7) X.env = (do
      let ov ← attributeBase (.Call (.Name "super" p0) [] [] p1) "__init__" X.env (eval (.Call (.Name "super" p0) [] [] p1) X.env)
      standAt p2.atName
      let (f, first) ← holding [ov] (getMethod ov "__init__" pl)
      callWith p7 f first (backTo p7 (starEach [ej] X.env)) [])) (hst : starEach [ej] X.env = (false, eval ej X.env) :: starEach [] X.env)
    (want : te σ H fun x H1 => H1 a = some (exo a C none) ∧ D.nx σ H1) :
    _root_.PySem.wpAt (model X.prog X.w) X.A (.func body X.env) (exec (.Expr (.Call (.Attribute (.Call (.Name "super" p0) [] [] p1) "__init__" p2) [ej] [] p7) p8) X.env) (SP X [] D) X.xe s := by
  obtain ⟨nm, q, N, bs, bm, sn, sub, ab, col, dd, k0, k1, k2, k3, k5, hC, hbm⟩ := T.cls
  obtain ⟨t1, ho⟩ := exo_at I.hok eH
  obtain ⟨ar, hp, hme⟩ := Option.map_eq_some_iff.mp har
  have KX := I.kIn
  obtain ⟨mb, hb1, hb2⟩ := I.mod.blt
  obtain ⟨m, hns, hlook⟩ := I.loc
  obtain ⟨u, ru, lk⟩ := hlook i me _ hi hσ (Or.inl km)
  have eu : u = Value.ref a := ru
  subst eu
  have hm : m me = some (.ref a) := by
    rcases lk with ⟨_, z⟩ | ⟨z, _⟩
    · exact z
    · rw [km] at z
      rcases z with z | z <;> cases z
  have mro : PySem.W.mroIn X.K C (.ref C) = some true := by
    unfold PySem.W.mroIn PySem.W.clsIn
    rw [hC]
    simp
  refine PySem.ks_wpAt_Expr_any (hi := I.quiet) (PySem.ks_wpAt_MethodCall (pl := pl) ?_ hev)
  refine PySem.ks_wpAt_super_base ks kc (by decide) ef (KX _ _ hfd) rfl hp ec (KX _ _ hcode) rfl hvs hfile htop ?_
  refine PySem.W.ks_loadName_global I.ok.kind ks (Calls.loadGlobal_builtin (by rw [I.ok.glob]; exact I.mod.glob.keeps I.bk) hsup (by rw [I.ok.blt]; exact hb1.keeps I.bk) ((hb2 _ (by decide)).trans (by decide +kernel : bootBuiltins "super" = some (.type "super"))) ⟨rfl, ?_⟩)
  refine wpAny_loadName_free I.ok.kind kc ecl ⟨_, KX _ _ hcell, rfl⟩ ?_
  rw [hme]
  refine wpAny_loadName_local I.ok.kind km hns hm ?_
  obtain ⟨hp0, g, d, t, os⟩ := s
  refine PySem.ks_wpAny_isType_cls (KX _ _ hC) rfl ⟨rfl, ?_⟩
  refine PySem.ks_wpAny_call_super (KX _ _ hC) rfl ho rfl (fun c => nofun) (PySem.W.looks_mroIn KX mro) fun h' e k => ?_
  have I1 : Inv X [] σ H ⟨h', g, d, t, os⟩ := I.kept (t' := t) k
  refine get_sup T I1 eH e fun u s2 I2 => ?_
  rw [hst]
  refine PySem.W.kxs_callWith (i := initId) (x := a) rfl (Calls.evalArgs_plain ?_)
  show wpAny _ _ (spliced ((false, eval ej X.env) :: backTo p7 (starEach [] X.env))) _ _ _
  refine Calls.spliced_cons (thn (he.run [(u, PySem.G9X.mwO initId a)] s2 σ H _ I2 want) fun v s3 hh => ?_)
  obtain ⟨x, H1, I3, r, e1, q1⟩ := hh
  refine Calls.spliced_nil ⟨ClX.pin_at I3, ?_⟩
  refine init_bound T I3 e1 (ClX.pin_at I3) ?_ fun s4 I4 => ⟨σ, H1, ClX.unpin I4, q1⟩
  show 1 ≤ sizeLine
  rw [sizeLine_eq]
  omega
end
end G9

namespace G9
open PySem PySem.Spec PyProof.Rows L2
/-! ### the __init__ of an own exception class: super().__init__(text); self.f = v -/
/-- the data of a value that is no object -/
def flatD : V → Option PyData
  | .non => some .none
  | .bl b => some (.bool b)
  | .int i => some (.int i)
  | .str s => some (.str s)
  | _ => none
def keyD : Key → PyData
  | .inl i => .int i
  | .inr s => .str s
/-- a dict of values that are no objects, told as data -/
def FlatD : List (Key × V) → List (PyData × PyData) → Prop := Paired fun kv q => keyD kv.1 = q.1 ∧ flatD kv.2 = some q.2
theorem flat_reads {h : Heap} {v : V} {u : Value} {d : PyData} (e : flatD v = some d) (r : RelV v u) : Reads h u d [] := by
  cases v with
  | non => cases e; cases r; exact .none
  | bl b => cases e; cases r; exact .bool b
  | int i => cases e; obtain ⟨t, rfl⟩ := r; exact .int i t
  | str x => cases e; obtain ⟨t, rfl⟩ := r; exact .str x t
  | _ => cases e
theorem key_reads {P : Program} {w : World} {h : Heap} {k : Key} {u : Value} (e : (mixKind P w).is k u = true) : Reads h u (keyD k) [] := by
  rcases keyIs_shape e with ⟨i, t, rfl, rfl⟩ | ⟨x, t, rfl, rfl⟩
  · exact .int i t
  · exact .str x t
theorem flat_rows {P : Program} {w : World} {h : Heap} : ∀ {es : List DictEntry} {kvs : List (Key × Value)} {lvs : List (Key × V)} {ds : List (PyData × PyData)}, Pairs (mixKind P w) es kvs → KV lvs kvs → FlatD lvs ds → ReadsAll h (es.map (·.key)) (ds.map (·.1)) [] ∧ ReadsAll h (es.map (·.val)) (ds.map (·.2)) []
  | [], [], [], [], _, _, _ => ⟨.nil, .nil⟩
  | e :: es, kv :: kvs, lv :: lvs, d :: ds, .cons h1 h2 t, .cons a r, .cons f g => by
    obtain ⟨i1, i2⟩ := flat_rows (h := h) t r g
    refine ⟨?_, ?_⟩
    · have x : Reads h e.key d.1 [] := by
        rw [← f.1]
        exact a.1 ▸ key_reads h1
      exact .cons x i1
    · have x : Reads h e.val d.2 [] := flat_reads f.2 (by rw [h2]; exact a.2)
      exact .cons x i2
  | [], _ :: _, _, _, h, _, _ => nomatch h
  | _ :: _, [], _, _, h, _, _ => nomatch h
  | [], [], _ :: _, _, _, h, _ => nomatch h
  | _ :: _, _ :: _, [], _, _, h, _ => nomatch h
  | [], [], [], _ :: _, _, _, h => nomatch h
  | _ :: _, _ :: _, _ :: _, [], _, _, h => nomatch h
theorem dict_reads {X : Cx} {pins : List (Addr × Obj)} {σ : L2.St} {H : Hp} {s : Shared} {p : Addr} {kvs : List (Key × V)} {ds : List (PyData × PyData)} (I : Inv X pins σ H s) (e : H p = some (.dK kvs)) (f : FlatD kvs ds) : ∃ as, Reads s.heap (.ref p) (.dict ds) as ∧ sysModules ∉ as := by
  obtain ⟨_, lo, vs, rel, o, es, ep, ho, hc, hd, hk, hp, hn⟩ := dk_of I.hok e
  obtain ⟨r1, r2⟩ := flat_rows (h := s.heap) hp rel f
  refine ⟨p :: [] ++ [], .dict ho hc.1 hd r1 r2, fun m => ?_⟩
  have m : sysModules = p := by simpa using m
  rw [m, beq_self_eq_true] at lo
  cases lo
/-- what can be shown by !r, in a text of moderate size -/
def Shw (K : PySem.W.Frag) (H : Hp) (v : V) : Prop :=
  (∃ i : Int, v = .int i ∧ i.natAbs.log2 < 1920) ∨ (∃ y : Str, v = .str y ∧ (reprText y).length + 1000 ≤ sizeLine) ∨ v = .non ∨ (∃ b, v = .bl b) ∨
    (∃ (p : Addr) (d : PyData), v = .ref p ∧ Dp K H (.ref p) d ∧ d.showable = true ∧ d.hasDict = false ∧ d.depth ≤ 60 ∧ d.shown.length + 1000 ≤ sizeLine) ∨
    ∃ (p : Addr) (kvs : List (Key × V)) (ds : List (PyData × PyData)), v = .ref p ∧ H p = some (.dK kvs) ∧ FlatD kvs ds ∧ (PyData.dict ds).showable = true ∧ (PyData.dict ds).depth ≤ 60 ∧ (PyData.dict ds).shown.length + 1000 ≤ sizeLine
def spInit (C : Addr) (f : Str) (K : PySem.W.Frag) : Sp := fun vs H Q _ => ∃ a v, vs = [.ref a, v] ∧ H a = some (exo a C none) ∧ Shw K H v ∧ ∀ dx, H dx = none → dx ≠ a → Q .non (upd (upd H dx (exd dx [(f, v)])) a (exo a C (some dx)))
section
variable {X : Cx}
/-- {x!r} in an f-string, some text -/
def tShw (K : PySem.W.Frag) (te : TE) : TE := fun σ H Q => te σ H fun x H1 => Shw K H1 x ∧ ∀ y : Str, y.length + 1000 ≤ sizeLine → Q (.str y) H1
theorem int_text_small {i : Int} (h : i.natAbs.log2 < 1920) : (Str.ofString (toString i)).length + 1000 ≤ sizeLine := by
  have e := int_text_length_le (k := 1920) (by decide) h
  rw [PySem.ofString_length, sizeLine_eq]
  omega
theorem pe_shw {k : Nat} (room : RoomG k X.A) {e : Expr} {te : TE} {pos : Pos} (he : PE X e te) : PE X (.FormattedValue e 114 none pos) (tShw X.K te) := by
  refine ⟨fun pins s σ H Q I h => ?_⟩
  refine wpAny_FormattedValue_repr (thn (he.run pins s σ H _ I h) fun v s1 hv => ?_)
  obtain ⟨x, H1, I1, r1, sh, q⟩ := hv
  have fin : ∀ {y : Str} {t t' : Tok} {s2 : Shared}, y.length + 1000 ≤ sizeLine → Inv X pins σ H1 s2 → wpAny (model X.prog X.w) X.A (formatField (.str y t) Str.empty) (EP X pins σ Q) X.xe s2 := fun {y t t' s2} hy I2 =>
    wpAny_formatField_str ⟨.str y, H1, I2, ⟨_, rfl⟩, q y hy⟩ ⟨.str y, H1, I2.tok _, ⟨_, rfl⟩, q y hy⟩ (by omega)
  rcases sh with ⟨i, rfl, hz⟩ | ⟨y, rfl, hz⟩ | rfl | ⟨b, rfl⟩ | ⟨p, d, rfl, hd, a1, a2, a3, a4⟩ | ⟨p, kvs, ds, rfl, e1, f1, a1, a3, a4⟩
  · obtain ⟨t, rfl⟩ := r1
    exact pyReprObj_int hz (fin (t' := t) (int_text_small hz) (I1.tok _))
  · obtain ⟨t, rfl⟩ := r1
    exact pyReprObj_str (fin (t' := t) hz (I1.tok _)) (by omega)
  · obtain rfl : v = Value.none := r1
    exact pyReprObj_none (fin (t' := s1.toks) (by rw [sizeLine_eq]; decide) (I1.tok _))
  · obtain rfl : v = Value.bool b := r1
    refine pyReprObj_bool (fin (t' := s1.toks) ?_ (I1.tok _))
    rw [sizeLine_eq]
    cases b <;> decide
  · obtain ⟨as, rd⟩ := Dp.reads I1 d _ _ hd r1
    obtain rfl : v = Value.ref p := r1
    have un := room.r.units
    exact pyReprObj_of_reads rd a1 (fun z => by rw [a2] at z; cases z) room.g (by omega) (fun _ _ z => z) (fun h' t tk k => fin (t' := tk) a4 (I1.kept k)) (by omega)
  · obtain ⟨as, rd, no⟩ := dict_reads I1 e1 f1
    obtain rfl : v = Value.ref p := r1
    have un := room.r.units
    exact pyReprObj_of_reads rd a1 (fun _ => no) room.g (by omega) (fun _ _ z => z) (fun h' t tk k => fin (t' := tk) a4 (I1.kept k)) (by omega)
end
/-- the whole def -/
theorem init_def {B newId initId : String} {tl : List Value} {P : Program} {w : World} {K : PySem.W.Frag} {mg : Str → Option Value} {base : Heap} {k : Nat} {qual me pn fn : Str} {st : Stmt} {f C : Addr} {fd : FuncData} {N : List Str} {ej : Expr} {p0 p1 p2 p7 p8 p9 p10 p11 p12 : Pos} {te : TE}
    (T : OexB B newId initId tl K C) (F : SupFn P K mg qual me st f C fd) (S : SupScope N [me, pn] me (defScope st))
    (hbody : defBody st = [.Expr (.Call (.Attribute (.Call (.Name "super" p0) [] [] p1) "__init__" p2) [ej] [] p7) p8, .Assign [.Attribute (.Name me p9) fn p10] (.Name pn p11) p12])
    (hno : PySem.W.findIn K (.ref C) fn = some none)
    (dbg : (me == ("__debug__" : Str)) = false ∧ (me == ("__classdict__" : Str)) = false ∧ (pn == ("__debug__" : Str)) = false ∧ (pn == ("__classdict__" : Str)) = false)
    (hev : ∀ X : Cx, ∃ pl : Sem Bool, eval (.Call (.Attribute (.Call (.Name "super" p0) [] [] p1) "__init__" p2) [ej] [] p7) X.env = (do
      let ov ← attributeBase (.Call (.Name "super" p0) [] [] p1) "__init__" X.env (eval (.Call (.Name "super" p0) [] [] p1) X.env)
      standAt p2.atName
      let (f, first) ← holding [ov] (getMethod ov "__init__" pl)
      callWith p7 f first (backTo p7 (starEach [ej] X.env)) [])) (hst : ∀ X : Cx, starEach [ej] X.env = (false, eval ej X.env) :: starEach [] X.env)
    (hsw : ∀ X : Cx, swapsWith (.Name pn p11) (some (.Attribute (.Name me p9) fn p10)) p12.line X.env = pure false)
    (hj : ∀ X : Cx, X.K = K → RoomG k X.A → X.N[1]? = some pn → Vis X.env.scope pn → PE X ej te)
    (ht : ∀ (σ : L2.St) (H : Hp) (Q : VK) (v : V), σ[1]? = some (some v) → Shw K H v → (∀ y : Str, Q (.str y) H) → te σ H Q) :
    FnG P w K mg base CX0 (k + 1) f fd [me, pn] (spInit C fn K) := by
  obtain ⟨oc, kV, doc, pm, ct, ccl, cl, od, an, cdd, cld, osl, ccs, csl, cda, cc, vs, file, tf, rfl, lk, cd, hcode, hvs, hfile, hcell⟩ := F.ex
  constructor
  · rintro _ H Q E ⟨a, v, rfl, _⟩
    rfl
  intro A fs s H as us xs Q E room env bind rel want
  obtain ⟨a, v, rfl, ea, sh, fin⟩ := want
  have inS : K.In s.heap := env.mod.kin.keeps fun b o z => (env.bs b o z).1
  have noLim : s.heap.NoLimit := env.mod.nolimit.keeps fun b o z => (env.bs b o z).1
  refine ks_codeAny_call_defAt room.r.depth (inS _ _ lk) rfl noLim (PySem.W.codeRec_of inS cd) rfl bind S.nocell (fun x hx => S.loc x.1 (List.of_mem_zip hx).1) (fun h1 hns hk => ?_) S.co S.gen S.kind
  have J := inv_startS (CX := CX0) (qual := qual) (f := f) (cdv := .ref cda) (E := E) (C := C) (tk := s.toks + ([me, pn].zip us).length) S room.r.hd env (by rfl) rel ⟨cl, cld, csl, hcell⟩ hns hk
  have n0 : N[0]? = some me := by
    have z : (N.take 2)[0]? = some me := by rw [show N.take 2 = [me, pn] from S.pre]; rfl
    rwa [List.getElem?_take_of_lt (by omega)] at z
  have n1 : N[1]? = some pn := by
    have z : (N.take 2)[1]? = some pn := by rw [show N.take 2 = [me, pn] from S.pre]; rfl
    rwa [List.getElem?_take_of_lt (by omega)] at z
  have room' : RoomG k (cxS CX0 P w K mg base N qual (defScope st) f (.ref cda) cc A fs s H E).A := ⟨room.r.deeper _, room.g⟩
  obtain ⟨pl, hpl⟩ := hev (cxS CX0 P w K mg base N qual (defScope st) f (.ref cda) cc A fs s H E)
  have loc1 := S.loc pn (by simp)
  have loc0 := S.loc me (by simp)
  show _root_.PySem.wpAt _ _ _ (execs (defBody st) _) _ _ _
  rw [hbody]
  refine ks_wpAt_execs_cons (ks_wpAt_mono (sup_stmt (X := cxS CX0 P w K mg base N qual (defScope st) f (.ref cda) cc A fs s H E) (D := { nx := fun σ G => σ = L2.start N [.ref a, v] ∧ G = H, rt := fun _ _ => False }) T J ea lk F.ar hcode hvs hfile hcell F.top F.sup rfl rfl rfl S.sup S.cls loc0 (i := 0) n0 rfl
    (hj _ rfl room' n1 (Or.inl loc1)) hpl (hst _) (ht _ _ _ v rfl sh fun y => ⟨ea, rfl, rfl⟩)) (fun fl s1 h1 => ?_) fun e s1 z => z)
  cases fl with
  | brk => exact h1.elim fun _ h => h.elim fun _ h => h.2.elim
  | cont => exact h1.elim fun _ h => h.elim fun _ h => h.2.elim
  | ret u => exact h1.elim fun _ h => h.elim fun _ h => h.elim fun _ h => h.2.2.elim
  | next =>
    obtain ⟨σ1, G1, J1, e1, e2⟩ := h1
    rw [e1, e2] at J1
    have b := ps_put (B := B) (newId := newId) (initId := initId) (tl := tl) (f := fn) (p' := p10) (pos := p12) (pe_var (X := cxS CX0 P w K mg base N qual (defScope st) f (.ref cda) cc A fs s H E) (i := 0) (x := me) (pos := p9) n0 (Or.inl loc0) dbg.1 dbg.2.1)
      (pe_var (X := cxS CX0 P w K mg base N qual (defScope st) f (.ref cda) cc A fs s H E) (i := 1) (x := pn) (pos := p11) n1 (Or.inl loc1) dbg.2.2.1 dbg.2.2.2) (hsw _)
    refine ks_wpAt_execs_cons (wpAt_of_wpAny (wpAny_mono (b.run [] s1 _ H { nx := fun σ G => Q .non G, rt := fun _ _ => False } J1 ?_) (fun fl s2 h2 => ?_) fun e s2 z => z))
    · exact ⟨v, rfl, _, rfl, a, C, rfl, T, hno, ea, fun dx n ne => fin dx n ne⟩
    · cases fl with
      | brk => exact h2.elim fun _ h => h.elim fun _ h => h.2.elim
      | cont => exact h2.elim fun _ h => h.elim fun _ h => h.2.elim
      | ret u => exact h2.elim fun _ h => h.elim fun _ h => h.elim fun _ h => h.2.2.elim
      | next =>
        obtain ⟨_, G, J2, q⟩ := h2
        refine wpAt_of_wpAny (wpAny_execs_nil ?_)
        exact ⟨.non, G, J2.os, J2.bare, J2.base, J2.hok, rfl, q⟩
end G9

namespace G9
open PySem PySem.Spec PyProof.Rows L2
theorem RoomG.make {k : Nat} {A : Around} (r : RoomG (k + 1) A) (C : Addr) (us : List Value) (kw : List (Str × Value)) : RoomG k (A.under (.builtin "type.__call__" ⟨.ref C :: us, kw⟩)) := by
  refine ⟨r.r.make C us kw, ?_⟩
  have g := r.g
  obtain ⟨h, d, f, gd, u⟩ := A
  dsimp only at g
  subst g
  rfl
theorem upd_upd {H : Hp} {a b : Addr} {o1 o2 o3 : HO} : upd (upd (upd H a o1) b o2) a o3 = upd (upd H b o2) a o3 := by
  funext c
  by_cases h : c = a
  · rw [h, upd_same, upd_same]
  · rw [upd_ne h, upd_ne h]
    by_cases hb : c = b
    · rw [hb, upd_same, upd_same]
    · rw [upd_ne hb, upd_ne hb, upd_ne h]
section
variable {X : Cx} {B newId initId : String} {tl : List Value} {C fI : Addr} {k : Nat} {fd : FuncData} {me pn f x : Str} {e : Expr} {te : TE} {p pos : Pos}
/-- C(e), C an own class with an own __init__: the object, tracked -/
theorem pe_makeI (T : OexB B newId initId tl X.K C) (iC : PySem.W.findIn X.K (.ref C) "__init__" = some (some (.ref fI))) (tI : PySem.W.typeIn X.K (.ref fI) = some (.type "function"))
    (F : FnG X.prog X.w X.K X.mg X.base CX0 k fI fd [me, pn] (spInit C f X.K)) (room : RoomG (k + 1) X.A) (hb : Binds X.K fd [me, pn] []) (hg : Gl X x) (hm : X.mg x = some (.ref C)) (he : PE X e te)
    (hs : starEach [e] X.env = (false, eval e X.env) :: starEach [] X.env := by rfl) (hdb : (x == ("__debug__" : Str)) = false := by decide) :
    PE X (.Call (.Name x p) [e] [] pos) (fun σ H Q => te σ H fun v H1 => ∀ a, H1 a = none → Shw X.K (upd H1 a (exo a C none)) v ∧ ∀ dx, H1 dx = none → dx ≠ a → Q (.ref a) (upd (upd H1 dx (exd dx [(f, v)])) a (exo a C (some dx)))) := by
  refine ⟨fun pins s σ H Q I h => ?_⟩
  obtain ⟨nm, q, N, bs, bm, sn, sub, ab, col, dd, k0, k1, k2, k3, k5, hC, hbm⟩ := T.cls
  refine wpAny_Call_Name_kw (ld_glob I hg hm ?_ hdb)
  refine PySem.W.callWith_K (h₀ := X.base) I.ok.mod.kin T.kC ?_ hs (by rfl)
  rw [hs]
  show wpAny _ _ (spliced ((false, eval e X.env) :: backTo pos (starEach [] X.env))) _ _ s
  refine Calls.spliced_cons (thn (he.run pins s σ H _ I h) fun u s1 ⟨v, H1, I1, r1, q1⟩ => ?_)
  refine Calls.spliced_nil ⟨I1.kIn, ?_⟩
  show wpAny _ _ (call (.ref C) [u]) _ _ _
  obtain ⟨hp, g, dr, tk, os⟩ := s1
  have large : hp.objs.size ≤ hp.objs.size + 1 := Nat.le_succ _
  have new : H1 (hp.objs.size + 1) = none := I1.hok.fresh large
  obtain ⟨sh, fin⟩ := q1 _ new
  have kk : ∀ b o, hp.get? b = some o → ((hp.push (PySem.W.kdv_tup [u])).push (PySem.HandSPX.excO C hp.objs.size)).get? b = some o := fun b o e => Heap.get?_push_of_some _ (Heap.get?_push_of_some _ e)
  have here : ((hp.push (PySem.W.kdv_tup [u])).push (PySem.HandSPX.excO C hp.objs.size)).get? (hp.objs.size + 1) = some (PySem.HandSPX.excO C hp.objs.size) := by heap_get
  have I2 : Inv X pins σ (upd H1 (hp.objs.size + 1) (exo (hp.objs.size + 1) C none)) ⟨(hp.push (PySem.W.kdv_tup [u])).push (PySem.HandSPX.excO C hp.objs.size), g, dr, tk, os⟩ :=
    I1.laid (t' := tk) (a := hp.objs.size + 1) (o := exo (hp.objs.size + 1) C none) (h' := (hp.push (PySem.W.kdv_tup [u])).push (PySem.HandSPX.excO C hp.objs.size)) kk large (exo_ok here)
  have want : spInit C f X.K [.ref (hp.objs.size + 1), v] (upd H1 (hp.objs.size + 1) (exo (hp.objs.size + 1) C none)) (fun r G => r = .non ∧ Q (.ref (hp.objs.size + 1)) G) fun _ _ _ => False := by
    refine ⟨_, v, rfl, upd_same, sh, fun dx n ne => ⟨rfl, ?_⟩⟩
    rw [upd_upd]
    refine fin dx ?_ ne
    rwa [upd_ne ne] at n
  refine wpAny_call (PySem.G9X.makeX T.T hbm (I1.kIn _ _ hC) (PySem.W.looks_findIn I1.kIn iC) (fun self => PySem.W.bind_fn I1.kIn self tI) (by show 1 ≤ sizeLine; rw [sizeLine_eq]; omega)
    (codeAny_mono (F.goes _ X.stack _ _ ⟨[Value.ref (hp.objs.size + 1), u], []⟩ [Value.ref (hp.objs.size + 1), u] [V.ref (hp.objs.size + 1), v] _ (fun _ _ _ => False) (room.make C [u] []) (I2.env0.make C [u] []) (hb _ [Value.ref (hp.objs.size + 1), u] I2.kIn rfl) (.cons rfl (.cons r1 .nil)) want) fun r s' hq' => ?_))
  cases r with
  | error er => exact absurd hq' (by intro z; exact z)
  | ok fl =>
    cases fl with
    | ret w =>
      obtain ⟨rv, H2, I3, rw', e1, q2⟩ := I2.after hq'
      subst e1
      exact ⟨rw', .ref (hp.objs.size + 1), H2, I3, rfl, q2⟩
    | next => exact False.elim hq'
    | brk => exact False.elim hq'
    | cont => exact False.elim hq'
/-- the same, raised at once -/
theorem pmk_makeI (T : OexB B newId initId tl X.K C) (iC : PySem.W.findIn X.K (.ref C) "__init__" = some (some (.ref fI))) (tI : PySem.W.typeIn X.K (.ref fI) = some (.type "function"))
    (F : FnG X.prog X.w X.K X.mg X.base CX0 k fI fd [me, pn] (spInit C f X.K)) (room : RoomG (k + 1) X.A) (hb : Binds X.K fd [me, pn] []) (hg : Gl X x) (hm : X.mg x = some (.ref C)) (he : PE X e te)
    (hs : starEach [e] X.env = (false, eval e X.env) :: starEach [] X.env := by rfl) (hdb : (x == ("__debug__" : Str)) = false := by decide) :
    PMk X (.Call (.Name x p) [e] [] pos) (fun σ H Q => te σ H fun v H1 => (∀ a, H1 a = none → Shw X.K (upd H1 a (exo a C none)) v) ∧ ∀ d, H1 d = none → Q (.ref C) (some d) (upd H1 d (.xd [(f, v)]))) := by
  intro pins s σ H Q I h
  obtain ⟨nm, q, N, bs, bm, sn, sub, ab, col, dd, k0, k1, k2, k3, k5, hC, hbm⟩ := T.cls
  refine wpAny_Call_Name_kw (ld_glob I hg hm ?_ hdb)
  refine PySem.W.callWith_K (h₀ := X.base) I.ok.mod.kin T.kC ?_ hs (by rfl)
  rw [hs]
  show wpAny _ _ (spliced ((false, eval e X.env) :: backTo pos (starEach [] X.env))) _ _ s
  refine Calls.spliced_cons (thn (he.run pins s σ H _ I h) fun u s1 ⟨v, H1, I1, r1, q1⟩ => ?_)
  refine Calls.spliced_nil ⟨I1.kIn, ?_⟩
  show wpAny _ _ (call (.ref C) [u]) _ _ _
  obtain ⟨hp, g, dr, tk, os⟩ := s1
  have large : hp.objs.size ≤ hp.objs.size + 1 := Nat.le_succ _
  have new : H1 (hp.objs.size + 1) = none := I1.hok.fresh large
  obtain ⟨sh, fin⟩ := q1
  have kk : ∀ b o, hp.get? b = some o → ((hp.push (PySem.W.kdv_tup [u])).push (PySem.HandSPX.excO C hp.objs.size)).get? b = some o := fun b o e => Heap.get?_push_of_some _ (Heap.get?_push_of_some _ e)
  have here : ((hp.push (PySem.W.kdv_tup [u])).push (PySem.HandSPX.excO C hp.objs.size)).get? (hp.objs.size + 1) = some (PySem.HandSPX.excO C hp.objs.size) := by heap_get
  have I2 : Inv X pins σ (upd H1 (hp.objs.size + 1) (exo (hp.objs.size + 1) C none)) ⟨(hp.push (PySem.W.kdv_tup [u])).push (PySem.HandSPX.excO C hp.objs.size), g, dr, tk, os⟩ :=
    I1.laid (t' := tk) (a := hp.objs.size + 1) (o := exo (hp.objs.size + 1) C none) (h' := (hp.push (PySem.W.kdv_tup [u])).push (PySem.HandSPX.excO C hp.objs.size)) kk large (exo_ok here)
  have want : spInit C f X.K [.ref (hp.objs.size + 1), v] (upd H1 (hp.objs.size + 1) (exo (hp.objs.size + 1) C none)) (fun r G => r = .non ∧ ∃ dx, H1 dx = none ∧ dx ≠ hp.objs.size + 1 ∧ G = upd (upd (upd H1 (hp.objs.size + 1) (exo (hp.objs.size + 1) C none)) dx (exd dx [(f, v)])) (hp.objs.size + 1) (exo (hp.objs.size + 1) C (some dx))) fun _ _ _ => False := by
    refine ⟨_, v, rfl, upd_same, sh _ new, fun dx n ne => ⟨rfl, dx, ?_, ne, rfl⟩⟩
    rwa [upd_ne ne] at n
  refine wpAny_call (PySem.G9X.makeX T.T hbm (I1.kIn _ _ hC) (PySem.W.looks_findIn I1.kIn iC) (fun self => PySem.W.bind_fn I1.kIn self tI) (by show 1 ≤ sizeLine; rw [sizeLine_eq]; omega)
    (codeAny_mono (F.goes _ X.stack _ _ ⟨[Value.ref (hp.objs.size + 1), u], []⟩ [Value.ref (hp.objs.size + 1), u] [V.ref (hp.objs.size + 1), v] _ (fun _ _ _ => False) (room.make C [u] []) (I2.env0.make C [u] []) (hb _ [Value.ref (hp.objs.size + 1), u] I2.kIn rfl) (.cons rfl (.cons r1 .nil)) want) fun r s' hq' => ?_))
  cases r with
  | error er => exact absurd hq' (by intro z; exact z)
  | ok fl =>
    cases fl with
    | ret w =>
      obtain ⟨rv, H2, os2, bare2, un2, hok2, rw', e1, dx, n, ne, eH⟩ := hq'
      subst e1
      obtain ⟨h2, g2, d2, t2, os'⟩ := s'
      refine ⟨rw', mk_end (raises_own T.exC T.tyC) I1 large kk un2 hok2 os2 bare2 (d := dx) (fs := [(f, v)]) (by rw [eH, upd_same]) (by rw [eH, upd_ne ne, upd_same]) n ?_⟩
      have same : upd (del H2 (hp.objs.size + 1)) dx (.xd [(f, v)]) = upd H1 dx (.xd [(f, v)]) := by
        funext b
        by_cases hb : b = dx
        · rw [hb, upd_same, upd_same]
        · rw [upd_ne hb, upd_ne hb]
          by_cases ha : b = hp.objs.size + 1
          · rw [ha, del_same, new]
          · rw [del_ne ha, eH, upd_ne ha, upd_ne hb, upd_ne ha]
      rw [same]
      exact fin dx n
    | next => exact False.elim hq'
    | brk => exact False.elim hq'
    | cont => exact False.elim hq'

/-- C(e), C an own class without own __init__: the object, tracked -/
theorem pe_make0 {bmB : List Value} {iI : String} (F : ExcBaseFacts B newId iI bmB) (q : PySem.W.excIn X.K C bmB newId = true) (gC : X.mg x = some (.ref C)) (kC : PySem.W.keepIn X.K (.ref C) = true) (hg : Gl X x) (he : PE X e te)
    (hs : starEach [e] X.env = (false, eval e X.env) :: starEach [] X.env := by rfl) (hdb : (x == ("__debug__" : Str)) = false := by decide) :
    PE X (.Call (.Name x p) [e] [] pos) (fun σ H Q => te σ H fun _ H1 => ∀ a, H1 a = none → Q (.ref a) (upd H1 a (exo a C none))) := by
  refine ⟨fun pins s σ H Q I h => ?_⟩
  refine wpAny_Call_Name_kw (ld_glob I hg gC ?_ hdb)
  refine PySem.W.callWith_K (h₀ := X.base) I.ok.mod.kin kC ?_ hs (by rfl)
  rw [hs]
  show wpAny _ _ (spliced ((false, eval e X.env) :: backTo pos (starEach [] X.env))) _ _ s
  refine Calls.spliced_cons (thn (he.run pins s σ H _ I h) fun u s1 ⟨v, H1, I1, r1, q1⟩ => ?_)
  refine Calls.spliced_nil ⟨I1.kIn, ?_⟩
  show wpAny _ _ (call (.ref C) [u]) _ _ _
  obtain ⟨bm, N, nm, qn, bs, hdct, sn, sub, ab, col, dd, k0, k1, k2, k3, k5, mN, hC, hN, hni, T⟩ := exc_obj I1.kIn q
  refine wpAny_call_exc_subT F T hC hN hni (fun h' a hm => ?_) (by show 1 ≤ sizeLine; rw [sizeLine_eq]; omega)
  have hn : H1 a = none := I1.hok.gone hm.new
  obtain ⟨t, ht, _, _⟩ := hm.there
  exact ⟨.ref a, upd H1 a (exo a C none), I1.laidN hm.keeps hm.new hn (exo_ok ht), rfl, q1 a hn⟩
/-- the same, raised at once -/
theorem pmk_make0 {bmB : List Value} {iI : String} (F : ExcBaseFacts B newId iI bmB) (q : PySem.W.excIn X.K C bmB newId = true) (gC : X.mg x = some (.ref C)) (kC : PySem.W.keepIn X.K (.ref C) = true) (r : Raises X (.ref C)) (hg : Gl X x) (he : PE X e te)
    (hs : starEach [e] X.env = (false, eval e X.env) :: starEach [] X.env := by rfl) (hdb : (x == ("__debug__" : Str)) = false := by decide) :
    PMk X (.Call (.Name x p) [e] [] pos) (fun σ H Q => te σ H fun _ H1 => Q (.ref C) none H1) := by
  intro pins s σ H Q I h
  refine wpAny_Call_Name_kw (ld_glob I hg gC ?_ hdb)
  refine PySem.W.callWith_K (h₀ := X.base) I.ok.mod.kin kC ?_ hs (by rfl)
  rw [hs]
  show wpAny _ _ (spliced ((false, eval e X.env) :: backTo pos (starEach [] X.env))) _ _ s
  refine Calls.spliced_cons (thn (he.run pins s σ H _ I h) fun u s1 ⟨v, H1, I1, r1, q1⟩ => ?_)
  refine Calls.spliced_nil ⟨I1.kIn, ?_⟩
  show wpAny _ _ (call (.ref C) [u]) _ _ _
  obtain ⟨bm, N, nm, qn, bs, hdct, sn, sub, ab, col, dd, k0, k1, k2, k3, k5, mN, hC, hN, hni, T⟩ := exc_obj I1.kIn q
  refine wpAny_call_exc_subT F T hC hN hni (fun h' a hm => ?_) (by show 1 ≤ sizeLine; rw [sizeLine_eq]; omega)
  exact mk_of I1 hm r q1 (I1.hok.gone hm.new)
end
end G9

namespace G9
open PySem PySem.Spec PyProof.Rows L2
/-! ### exceptions as values: what is told of them -/
/-- at a: an exception of the class cls, its dict od; raised or not -/
def exv (a : Addr) (cls : Value) (od : Option Addr) : HO := .ext fun h => ∃ (oe : Obj) (vs : Array Value), h.get? a = some oe ∧ Zc cls od oe ∧ oe.data = .fields vs
def XIn (H : Hp) (a C : Addr) (od : Option Addr) : Prop := ∃ φ, H a = some (.ext φ) ∧ ∀ h, φ h → ∃ (oe : Obj) (vs : Array Value), h.get? a = some oe ∧ Zc (.ref C) od oe ∧ oe.data = .fields vs
def XD (H : Hp) (d : Addr) (fs : List (Str × V)) : Prop := H d = some (exd d fs) ∨ H d = some (.xd fs)
/-- the exception, and its dict if it has one -/
def XAt (H : Hp) (a C : Addr) (od : Option Addr) (fs : List (Str × V)) : Prop := XIn H a C od ∧ (match od with | none => fs = [] | some d => XD H d fs)
theorem xin_exo {H : Hp} {a C : Addr} {od : Option Addr} (h : H a = some (exo a C od)) : XIn H a C od := ⟨_, h, fun _ ⟨_, e⟩ => ⟨_, _, e, ⟨rfl, rfl⟩, rfl⟩⟩
theorem xin_exv {H : Hp} {a C : Addr} {od : Option Addr} (h : H a = some (exv a (.ref C) od)) : XIn H a C od := ⟨_, h, fun _ e => e⟩
theorem xat_exo0 {H : Hp} {a C : Addr} (h : H a = some (exo a C none)) : XAt H a C none [] := ⟨xin_exo h, rfl⟩
theorem xat_exo {H : Hp} {a C d : Addr} {fs : List (Str × V)} (h : H a = some (exo a C (some d))) (hd : H d = some (exd d fs)) : XAt H a C (some d) fs := ⟨xin_exo h, Or.inl hd⟩
theorem xin_at {P : Program} {w : World} {H : Hp} {h : Heap} {a C : Addr} {od : Option Addr} (x : XIn H a C od) (ok : HOk P w H h) : ∃ (oe : Obj) (vs : Array Value), h.get? a = some oe ∧ Zc (.ref C) od oe ∧ oe.data = .fields vs := by
  obtain ⟨φ, e, k⟩ := x
  have y : ObjOk P w H h a (.ext φ) := ok a _ e
  exact k h y.1
theorem xd_at {P : Program} {w : World} {H : Hp} {h : Heap} {d : Addr} {fs : List (Str × V)} (x : XD H d fs) (ok : HOk P w H h) : ∃ mA, h.Ns1 d mA ∧ ∀ f, RelO (fs.lookup f) (mA f) := by
  rcases x with e | e
  · exact exd_at ok e
  · exact ok d _ e
theorem xat_inst {P : Program} {w : World} {H : Hp} {h : Heap} {a C : Addr} {od : Option Addr} {fs : List (Str × V)} (x : XAt H a C od fs) (ok : HOk P w H h) : ∃ (oe : Obj) (odo : Option Obj), PySem.W.InstAt h a oe C odo := by
  obtain ⟨x1, x2⟩ := x
  obtain ⟨oe, vs, e, z, dt⟩ := xin_at x1 ok
  have no : PySem.W.notCls oe = true := by unfold PySem.W.notCls; rw [dt] <;> rfl
  cases od with
  | none => exact ⟨oe, none, e, z.1, no, by rw [z.2]; trivial⟩
  | some d =>
    obtain ⟨mA, ⟨oD, es, ep, eD, r⟩, _⟩ := xd_at x2 ok
    exact ⟨oe, some oD, e, z.1, no, by rw [z.2]; exact eD⟩
theorem exv_ok {P : Program} {w : World} {H : Hp} {h : Heap} {a : Addr} {cls : Value} {od : Option Addr} {oe : Obj} {vs : Array Value} (e : h.get? a = some oe) (z : Zc cls od oe) (d : oe.data = .fields vs) : ObjOk P w H h a (exv a cls od) :=
  ⟨⟨oe, vs, e, z, d⟩, ⟨oe, e⟩, fun _ _ ⟨o, v, q, r⟩ k => ⟨o, v, k o q, r⟩⟩

/-! ### isinstance -/
def rIsX (K : PySem.W.Frag) : List V → Hp → VK → Prop := fun xs H Q => ∃ (a C : Addr) (od : Option Addr) (fs : List (Str × V)) (c : V) (cv : Value) (b : Bool), xs = [.ref a, c] ∧ ExcC K C ∧ XAt H a C od fs ∧ (∀ u, RelV c u → u = cv) ∧ PySem.W.kitOne K (.ref C) cv = some b ∧ Q (.bl b) H
theorem call_isX {X : Cx} : CallR X (.builtin "isinstance") (rIsX X.K) := by
  intro pins s σ H xs us Q I r h
  obtain ⟨a, C, od, fs, c, cv, b, rfl, T, x, hc, e, q⟩ := h
  cases r with
  | cons ra r2 =>
    cases r2 with
    | cons rc r3 =>
      cases r3
      cases ra
      have ec := hc _ rc
      subst ec
      obtain ⟨oe, odo, J⟩ := xat_inst x I.hok
      obtain ⟨cd, hcl, _⟩ := PySem.W.any_some T.hd
      exact PySem.W.kia_one (PySem.W.kitx_exc (by rw [hcl] <;> rfl) T.hg T.hk T.hs T.ha T.hn T.ht T.hm) I.kIn J e (fun z => nomatch z) fun tk => ⟨.bl b, H, I.kept (t' := tk) fun _ _ z => z, rfl, q⟩

/-! ### e.f -/
def tXat (K : PySem.W.Frag) (n : Str) (te : TE) : TE := fun σ H Q => te σ H fun x H1 => ∃ (a C d : Addr) (fs : List (Str × V)) (v : V), x = .ref a ∧ XAt H1 a C (some d) fs ∧ XfC K C ∧ PySem.W.findIn K (.ref C) n = some none ∧ fs.lookup n = some v ∧ Q v H1
theorem pe_xat {X : Cx} {e : Expr} {te : TE} {pos : Pos} {n : Str} (he : PE X e te) (hb : attributeBase e n X.env (eval e X.env) = eval e X.env := by rfl) : PE X (.Attribute e n pos) (tXat X.K n te) := by
  refine ⟨fun pins s σ H Q I h => ?_⟩
  refine attr_of hb (thn (he.run pins s σ H _ I h) fun u s1 hh => ?_)
  obtain ⟨x, H1, I1, rx, a, C, d, fs, v, ex, ⟨x1, x2⟩, T, hno, l, q⟩ := hh
  subst ex
  obtain rfl : u = Value.ref a := rx
  obtain ⟨oe, vs, e0, z, dt⟩ := xin_at x1 I1.hok
  obtain ⟨mA, hns, hr⟩ := xd_at x2 I1.hok
  obtain ⟨od, ho, hl⟩ := lookIn_ns hns
  obtain ⟨u, hu, ru⟩ := RelO.some_of (v := v) (o := mA n) (by rw [← l]; exact hr n)
  have J : PySem.W.InstAt s1.heap a oe C (some od) := ⟨e0, z.1, by unfold PySem.W.notCls; rw [dt] <;> rfl, by rw [z.2]; exact ho⟩
  exact HandSPX.exc_get I1.kIn J T.ga T.gg T.exC (PySem.W.findObj_own T.hdC hno rfl (by rw [hl, hu])) (handed_of ru) ⟨v, H1, I1.tok _, ru, q⟩

/-! ### defs that keep their promise also where an exception is handled -/
structure RoomW (k : Nat) (A : Around) : Prop where
  dp : A.depth + 3 * k + 5 < recursionLimit
  un : A.units + 16 * k + 200 < cLine
  g : A.guards = some []
theorem RoomW.of {k : Nat} {A : Around} (r : RoomG k A) : RoomW k A := ⟨r.r.dp, r.r.un, r.g⟩
theorem RoomW.deeper {k : Nat} {A : Around} (r : RoomW (k + 1) A) (env : Env) : RoomW k (A.deeper env) :=
  ⟨by have := r.dp; show A.depth + 1 + 3 * k + 5 < _; omega, by have := r.un; show A.units + 3 + 16 * k + 200 < _; omega, r.g⟩
theorem RoomW.mark {k : Nat} {A : Around} (r : RoomW k A) (v : Option Value) : RoomW k (A.mark v) := ⟨r.dp, r.un, r.g⟩
theorem RoomW.down {j k : Nat} {A : Around} (r : RoomW k A) (l : j ≤ k) : RoomW j A := ⟨by have := r.dp; omega, by have := r.un; omega, r.g⟩
theorem RoomW.depth {k : Nat} {A : Around} (r : RoomW k A) : A.depth < recursionLimit := by have := r.dp; omega
structure FnW (P : Program) (w : World) (K : PySem.W.Frag) (mg : Str → Option Value) (base : Heap) (CX : CXT) (k : Nat) (f : Addr) (fd : FuncData) (ps : List Str) (sp : Sp) : Prop where
  count : ∀ vs H Q E, sp vs H Q E → vs.length = ps.length
  goes : ∀ (A : Around) (fs : List Env) (s : Shared) (H : Hp) (as : Args) (us : List Value) (vs : List V) (Q : VK) (E : XK), RoomW k A → Env0 P w K mg base A fs s H →
    BindsTo s fd as (ps.zip us) → Vals vs us → sp vs H Q E → codeAny (model P w) A (.call (.ref f) as) (CR CX fs P w H s Q E) s
section
variable {P : Program} {w : World} {K : PySem.W.Frag} {mg : Str → Option Value} {base : Heap} {CX : CXT} {k : Nat} {f : Addr} {fd : FuncData} {ps N : List Str} {sp : Sp}
theorem FnW.g (F : FnW P w K mg base CX k f fd ps sp) : FnG P w K mg base CX k f fd ps sp := ⟨F.count, fun A fs s H as us vs Q E r => F.goes A fs s H as us vs Q E (.of r)⟩
theorem FnW.up {j : Nat} (F : FnW P w K mg base CX j f fd ps sp) (l : j ≤ k) : FnW P w K mg base CX k f fd ps sp := ⟨F.count, fun A fs s H as us vs Q E r => F.goes A fs s H as us vs Q E (r.down l)⟩
/-- the context of such a body: nothing is said of an exception that is handled -/
def cxW (CX : CXT) (P : Program) (w : World) (K : PySem.W.Frag) (mg : Str → Option Value) (base : Heap) (N : List Str) (qual : Str) (scope : Scope) (f : Addr) (cd : Value) (A : Around) (fs : List Env) (s : Shared) (H : Hp) (E : XK) : Cx :=
  { cxOf CX P w K mg base N qual scope f cd A fs s H E with calm := false }
/-- what is known of a state where one is handled is known of it where none is -/
theorem inv_uncalm {qual : Str} {scope : Scope} {cd : Value} {A : Around} {fs : List Env} {s s1 : Shared} {H G : Hp} {E : XK} {pins : List (Addr × Obj)} {σ : L2.St}
    (I : Inv (cxOf CX P w K mg base N qual scope f cd { A with handled := none } fs s H E) pins σ G s1) (he : (envOfC qual scope s.heap.objs.size f cd) = (envOfC qual scope s.heap.objs.size f cd)) : Inv (cxW CX P w K mg base N qual scope f cd A fs s H E) pins σ G s1 :=
  ⟨⟨I.ok.mod, I.ok.kind, I.ok.glob, I.ok.blt, I.ok.above, I.ok.inj, I.ok.has, I.ok.cab, fun z => Bool.noConfusion (show false = true from z), I.ok.frames, I.ok.stk, I.ok.exf, I.ok.bs, I.ok.bsz, I.ok.noex, I.ok.exfs, I.ok.funs, I.ok.frf⟩, I.os, I.bare, I.base, I.loc, I.cell, I.free, I.freeC, I.pin, I.hok, I.len⟩
theorem by_bodyW {name qual : Str} {params : Arguments} {body : List Stmt} {scope : Scope} {dV kV doc pm cdv ct oc : Value} {an od : Option Addr} {osl : Array (Option Value)}
    (at_ : K.lookup f = some ⟨oc, od, .func (PySem.W.fnOf name qual params body scope dV kV doc pm an cdv ct), osl⟩) (cd : PySem.W.codeIn K cdv qual = true) (S : FnScope N ps scope)
    (count : ∀ vs H Q E, sp vs H Q E → vs.length = ps.length)
    (hb : ∀ (A : Around) (fs : List Env) (s : Shared) (H : Hp) (vs : List V) (Q : VK) (E : XK), RoomW k (A.deeper (envOfC qual scope s.heap.objs.size f cdv)) → sp vs H Q E →
      ∃ t, PSs (cxW CX P w K mg base N qual scope f cdv A fs s H E) body t ∧ t { nx := fun _ G => Q .non G, rt := Q } (start N vs) H) :
    FnW P w K mg base CX (k + 1) f (PySem.W.fnOf name qual params body scope dV kV doc pm an cdv ct) ps sp := by
  constructor
  · exact count
  intro A fs s H as us vs Q E room env bind rel want
  have same := count _ _ _ _ want
  have inS : K.In s.heap := env.mod.kin.keeps fun b o z => (env.bs b o z).1
  have noLim : s.heap.NoLimit := env.mod.nolimit.keeps fun b o z => (env.bs b o z).1
  have kinds : ∀ y ∈ ps.zip us, scope.names.lookup y.1 = some .local ∨ (scope.names.lookup y.1 = some .cell ∧ ((cellsFrom (s.heap.objs.size + 1) scope.names []).lookup y.1).isSome = true) := by
    rintro ⟨n, v⟩ hy
    rcases S.par n (List.of_mem_zip hy).1 with z | z
    · exact Or.inl z
    · exact Or.inr ⟨z, PySem.W.cellsFrom_some _ _ _ (.inl z)⟩
  refine codeAny_call_function room.depth (inS _ _ at_) rfl S.co S.gen rfl (PySem.W.codeRec_of inS cd) (bind _ _ _ _ ?_)
  refine wpAny_newFunctionEnv_cells S.kind kinds fun en ee s1 x => ?_
  subst ee
  refine ⟨noLim.keeps x.toInCall.keep, codeAny_func ?_⟩
  obtain ⟨t, ht, hq⟩ := hb A fs s H vs Q E (room.deeper _) want
  have env' : Env0 P w K mg base { A with handled := none } fs s H := ⟨env.frames, env.mod, env.bs, env.bsz, env.funs, env.frf, env.hok, env.bare⟩
  have J := inv_uncalm (A := A) (inv_start (CX := CX) (E := E) S (show { A with handled := none }.handled = none from rfl) env' same rel x) rfl
  have done : ∀ {τ : L2.St} {G : Hp} {v : V} {u : Value} {z : Shared}, Inv (cxW CX P w K mg base N qual scope f cdv A fs s H E) [] τ G z → RelV v u → Q v G → CE fs P w H s Q u z :=
    fun {_ G v _ _} I r q => ⟨v, G, I.os, I.bare, I.base, I.hok, r, q⟩
  refine wpAny_mono (ht.run [] s1 (start N vs) H _ J hq) ?_ fun _ _ z => z
  intro fl z hz
  cases fl with
  | next =>
    obtain ⟨_, _, I, q⟩ := hz
    exact done (v := V.non) (u := Value.none) I rfl q
  | ret u =>
    obtain ⟨_, _, _, I, r, q⟩ := hz
    exact done I r q
  | brk => exact hz.elim fun _ h => h.elim fun _ h => h.2.elim
  | cont => exact hz.elim fun _ h => h.elim fun _ h => h.2.elim
theorem okW {x qual : Str} {st : Stmt} (F : Fun K x qual st f fd) (S : FnScope N ps (defScope st)) (count : ∀ vs H Q E, sp vs H Q E → vs.length = ps.length)
    (hb : ∀ (cdv : Value) (A : Around) (fs : List Env) (s : Shared) (H : Hp) (vs : List V) (Q : VK) (E : XK), RoomW k (A.deeper (envOfC qual (defScope st) s.heap.objs.size f cdv)) → sp vs H Q E →
      ∃ t, PSs (cxW CX0 P w K mg base N qual (defScope st) f cdv A fs s H E).nox (defBody st) t ∧ t { nx := fun _ G => Q .non G, rt := Q } (start N vs) H) : FnW P w K mg base CX0 (k + 1) f fd ps sp := by
  obtain ⟨_, _, _, _, _, _, cdv, _, _, rfl, lk, cd⟩ := F.ex
  refine by_bodyW lk cd S count fun A fs s H vs Q E room want => ?_
  obtain ⟨t, h, q⟩ := hb cdv A fs s H vs Q E room want
  exact ⟨t, h.nox, q⟩
end
section
variable {X : Cx} {CX : CXT} {k : Nat} {f : Addr} {fd : FuncData} {ps : List Str} {sp : Sp} {dvs : List V} {ds : List Value} {E : XK} {x : Str} {p pos : Pos} {e : Expr} {es : List Expr} {t : TA}
theorem pe_callW (F : FnW X.prog X.w X.K X.mg X.base CX k f fd ps sp) (room : RoomW k X.A) (hg : Gl X x) (hm : X.mg x = some (.ref f)) (hk : PySem.W.keepIn X.K (.ref f) = true) (hb : Binds X.K fd ps ds) (hd : Vals dvs ds) (hx : Passes CX X E)
    (ha : PA X (e :: es) t) (nd : (x == ("__debug__" : Str)) = false := by decide) (he : starEach (e :: es) X.env = (false, eval e X.env) :: starEach es X.env := by rfl) (hp : (backTo pos (starEach es X.env)).any (·.1) = false := by rfl) :
    PE X (.Call (.Name x p) (e :: es) [] pos) (tCall sp dvs E t) := by
  constructor
  intro pins s σ H Q I want
  refine wpAny_Call_Name_kw (ld_glob I hg hm ?_ nd)
  refine PySem.W.callWith_K (h₀ := X.base) I.ok.mod.kin hk (thn (ha.run pos pins s σ H _ I want) fun us z ⟨vs, G, J, r, q⟩ => ⟨J.kIn, ?_⟩) he hp
  have rr : Vals (vs ++ dvs) (us ++ ds) := r.append hd
  have len : (us ++ ds).length = ps.length := rr.length.symm.trans (F.count _ _ _ _ q)
  refine wpAny_call (codeAny_mono (F.goes X.A X.stack z G ⟨us, []⟩ (us ++ ds) (vs ++ dvs) Q E room J.env0 (hb z us J.kIn len) rr q) ?_)
  intro res z' hz
  match res, hz with
  | .error e, hz => exact hx pins σ G z e z' J hz
  | .ok (.ret u), hz => exact J.after hz
end
end G9

namespace PySem
namespace G9X
open W Calls
section
variable {M : Model} {A : Around} {E : Value → Shared → Prop} {s : Shared} {K : Frag}
theorem loop_pass {β : Type} {init : β} {body : Value → β → Sem (ForInStep β)} {Q : β → Shared → Prop} : ∀ {cs : List Value}, (∀ c ∈ cs, ∀ {P : ForInStep β → Shared → Prop}, P (.yield init) s → wpAny M A (body c init) P E s) → Q init s → wpAny M A (forIn cs init body) Q E s
  | [], _, q => wpAny_pure q
  | c :: cs, h, q => by
    rw [List.forIn_cons]
    refine wpAny_bind (h c List.mem_cons_self ?_)
    exact loop_pass (cs := cs) (fun d hd => h d (List.mem_cons_of_mem _ hd)) q
theorem loop_any {β : Type} {init found : β} {body : Value → β → Sem (ForInStep β)} {f : Value → Bool} {Q : β → Shared → Prop} : ∀ {cs : List Value}, (∀ c ∈ cs, ∀ {P : ForInStep β → Shared → Prop}, P (if f c then .done found else .yield init) s → wpAny M A (body c init) P E s) → Q (if cs.any f then found else init) s → wpAny M A (forIn cs init body) Q E s
  | [], _, q => wpAny_pure q
  | c :: cs, h, q => by
    rw [List.forIn_cons]
    refine wpAny_bind (h c List.mem_cons_self ?_)
    rw [List.any_cons] at q
    cases hc : f c with
    | true =>
      rw [hc, Bool.true_or, if_pos rfl] at q
      exact wpAny_pure q
    | false =>
      rw [hc, Bool.false_or] at q
      exact loop_any (cs := cs) (fun d hd => h d (List.mem_cons_of_mem _ hd)) q
def exF (K : Frag) (cls c : Value) : Bool := (exmOne K cls c).getD false
theorem exm_all : ∀ {cs : List Value} {cls : Value} {b : Bool}, exmAny K cls cs = some b → (∀ c ∈ cs, exmOne K cls c = some (exF K cls c)) ∧ b = cs.any (exF K cls)
  | [], cls, b, h => ⟨(fun _ z => nomatch z), (Option.some.inj (show some false = some b from h)).symm⟩
  | c :: cs, cls, b, h => by
    obtain ⟨b1, d1, x1, y1, rfl⟩ := exmAny_cons h
    obtain ⟨h1, h2⟩ := exm_all y1
    have e1 : exF K cls c = b1 := by unfold exF; rw [x1]; rfl
    refine ⟨fun d hd => ?_, by rw [List.any_cons, e1, ← h2]⟩
    rcases List.mem_cons.mp hd with z | z
    · rw [z, e1]
      exact x1
    · exact h1 d z
theorem exm_tupN {cs : List Value} {cls : Value} {tp e : Addr} {b : Bool} {h : Heap} (X : K.In h) (LT : Looks M h (typeOf (.ref e)) cls) (hp : h.get? tp = some { cls := .type "tuple", data := .seq cs.toArray }) (hx : exmAny K cls cs = some b) :
    Looks M h (excMatches (.ref e) (.ref tp)) b := by
  intro A Q E s k₀ q
  obtain ⟨hh, g, d, tk, os⟩ := s
  have k : ∀ b o, h.get? b = some o → hh.get? b = some o := k₀
  have L0 : Looks M h (isInstance (.ref tp) (.type "tuple")) true := ((Looks.ld hp).andThen .now).andThen (Looks.of_pure isSubtype_tuple_tuple)
  obtain ⟨h1, h2⟩ := exm_all hx
  have L0 := L0.keeps k
  have LT := LT.keeps k
  have hp' := k _ _ hp
  unfold excMatches
  refine wpAny_bind (L0.at ?_)
  dsimp only
  rw [if_pos rfl]
  first
    | refine wpAny_bind (wpAny_seqItems hp' rfl ?_)
    | refine wpAny_bind (wpAny_bind (wpAny_seqItems hp' rfl (wpAny_pure ?_)))
  dsimp only [Option.getD_some, Option.getD]
  first
    | refine wpAny_bind (loop_pass (fun c hc {P} hP => ?_) ?_)
    | refine wpAny_bind (wpAny_pure (wpAny_bind (loop_pass (fun c hc {P} hP => ?_) ?_)))
  · obtain ⟨e1, _⟩ := exm_cls (M := M) X (h1 c hc)
    refine wpAny_bind ((e1.keeps k).at ?_)
    exact wpAny_pure hP
  refine wpAny_bind (LT.at ?_)
  refine wpAny_bind (loop_any (f := exF K cls) (found := (some true, ())) (fun c hc {P} hP => ?_) ?_)
  · obtain ⟨_, S1⟩ := exm_cls (M := M) X (h1 c hc)
    refine wpAny_bind ((S1.keeps k).at ?_)
    cases hf : exF K cls c with
    | true =>
      rw [hf] at hP
      exact wpAny_pure hP
    | false =>
      rw [hf] at hP
      exact wpAny_pure hP
  · rw [h2] at q
    cases hf : cs.any (exF K cls) with
    | true =>
      rw [hf] at q
      exact wpAny_pure q
    | false =>
      rw [hf] at q
      exact wpAny_pure q
end
end G9X
end PySem

namespace G9
open PySem PySem.Spec PyProof.Rows L2
/-! ### try: several clauses, classes alone or in tuples, with a name or without; the caught exception stands as a value in the suite -/
inductive NamesL (X : Cx) : List Expr → List Value → Prop
  | nil : NamesL X [] []
  | cons {x : Str} {c : Value} {p : Pos} {es : List Expr} {cs : List Value} (h : Names X x c) (r : NamesL X es cs) : NamesL X (.Name x p :: es) (c :: cs)
inductive TestE (X : Cx) : Expr → List Value → Prop
  | one {x : Str} {c : Value} {p : Pos} (h : Names X x c) : TestE X (.Name x p) [c]
  | tup {es : List Expr} {cs : List Value} {n : Nat} {p : Pos} (h : NamesL X es cs) (hl : cs.length ≤ 100) : TestE X (.Tuple es n p) cs
structure Hd where
  cs : List Value
  slot : Option Nat
  ts : Addr → List (Addr × Obj) → TS
def endsAt (slot : Option Nat) (D : Ends) : Ends := match slot with
  | none => D
  | some i => { nx := fun σ H => D.nx (σ.set i none) H, rt := D.rt, bk := fun σ H => D.bk (σ.set i none) H, ct := fun σ H => D.ct (σ.set i none) H }
def setAt (slot : Option Nat) (σ : L2.St) (a : Addr) : L2.St := match slot with
  | none => σ
  | some i => σ.set i (some (.ref a))
def wX (K : PySem.W.Frag) (Wout : WX) (D : Ends) : List Hd → WX
  | [] => Wout
  | h :: r => fun cls d σ H => ∃ b, PySem.W.exmAny K cls h.cs = some b ∧ (b = true → ∀ a pn, H a = none → h.ts a pn (endsAt h.slot D) (setAt h.slot σ a) (upd H a (exv a cls d))) ∧ (b = false → wX K Wout D r cls d σ H)
inductive HdsX (X : Cx) : List ExceptHandler → List Hd → Prop
  | nil : HdsX X [] []
  | only {t : Expr} {cs : List Value} {b₀ : Stmt} {suite : List Stmt} {ts : Addr → List (Addr × Obj) → TS} {pos : Pos} {hds : List ExceptHandler} {l : List Hd} (T : TestE X t cs) (hsu : ∀ (a : Addr) (pn : List (Addr × Obj)), PSs (X.suite a pn) (b₀ :: suite) (ts a pn)) (r : HdsX X hds l) :
      HdsX X (.ExceptHandler (some t) none (b₀ :: suite) pos :: hds) (⟨cs, none, ts⟩ :: l)
  | as {t : Expr} {cs : List Value} {n : Str} {i : Nat} {b₀ : Stmt} {suite : List Stmt} {ts : Addr → List (Addr × Obj) → TS} {pos : Pos} {hds : List ExceptHandler} {l : List Hd} (T : TestE X t cs) (hi : X.N[i]? = some n) (hl : X.env.kindOf n = some .local)
      (hsu : ∀ (a : Addr) (pn : List (Addr × Obj)), PSs (X.suite a pn) (b₀ :: suite) (ts a pn)) (r : HdsX X hds l) : HdsX X (.ExceptHandler (some t) (some n) (b₀ :: suite) pos :: hds) (⟨cs, some i, ts⟩ :: l)

section
variable {X : Cx} {pins : List (Addr × Obj)} {σ : L2.St} {H : Hp} {s sI : Shared} {a : Addr} {cls : Value} {d : Option Addr}
/-- the suite's state: the caught exception is tracked -/
theorem inv_suiteX {oe : Obj} {vs : Array Value} (I : Inv X pins σ H sI) (J : Inv X pins σ H s) (nI : sI.heap.get? a = none) (na : H a = none) (he : s.heap.get? a = some oe) (hz : Zc cls d oe) (hd : oe.data = .fields vs) :
    Inv (X.suite a (X.pn ++ pins)) [] σ (upd H a (exv a cls d)) s := by
  have ne : ∀ {b : Addr} {o : Obj}, sI.heap.get? b = some o → b ≠ a := fun e z => by
    rw [z, nI] at e
    cases e
  have nu : ∀ {b : Addr} {o : HO}, H b = some o → upd H a (exv a cls d) b = some o := fun e => by
    rw [upd_ne (ne_of_none e na)]
    exact e
  refine ⟨J.ok.suite _ _, J.os, J.bare, ⟨J.base.keep, J.base.slot, fun b o e n hx => ?_, J.base.there, fun b xs e => nu (J.base.tups b xs e), fun b o u e => nu (J.base.frzs b o u e), fun b ps e => ?_⟩, J.loc, J.cell, ?_, fun x c e => ?_, fun p hp => ?_, J.hok.laidN (fun _ _ q => q) na (exv_ok he hz hd), J.len⟩
  · obtain ⟨o', q⟩ := I.base.there b o e hx
    rw [upd_ne (ne q)]
    exact J.base.free b o e n hx
  · obtain ⟨more, q⟩ := J.base.tbls b ps e
    exact ⟨more, nu q⟩
  · obtain ⟨m, ⟨o, es, ep, ho, _⟩, _⟩ := I.loc
    show upd H a (exv a cls d) X.env.locals = none
    rw [upd_ne (ne ho)]
    exact J.free
  · obtain ⟨v, o, ho, _⟩ := I.cell x c e
    rw [upd_ne (ne ho)]
    exact J.freeC x c e
  · have hp' : p ∈ X.pn ++ pins := by simpa using hp
    obtain ⟨e0, _⟩ := I.pin p hp'
    obtain ⟨e1, e2, e3⟩ := J.pin p hp'
    exact ⟨e1, by rw [upd_ne (ne e0)]; exact e2, e3⟩
theorem inv_unsuiteX (I : Inv (X.suite a (X.pn ++ pins)) [] σ H s) (ok : X.Ok) : Inv X pins σ H s :=
  ⟨ok, I.os, I.bare, I.base, I.loc, I.cell, I.free, I.freeC, fun p hp => I.pin p (List.mem_append_left _ hp), I.hok, I.len⟩
theorem fly_keep {B h h' : Heap} {l : List Env} {Z : Obj → Prop} (k : ∀ b o, h.get? b = some o → h'.get? b = some o) (f : HandSPX.FlyingZ B l a Z h) : HandSPX.FlyingZ B l a Z h' := by
  obtain ⟨f1, f2, f3, oe, vs, T, oT, ts, e1, e2, e3, e4, e5, e6, e7, e8, e9⟩ := f
  exact ⟨fun b o e => k _ _ (f1 b o e), f2, Heap.FunFrames.of_keeps (fun b o e _ => ⟨o, k b o e, rfl⟩) f3, oe, vs, T, oT, ts, k _ _ e1, e2, e3, e4, e5, e6, k _ _ e7, e8, e9⟩
/-- a clause's test -/
theorem name_run {x : Str} {c : Value} {p : Pos} {pn : List (Addr × Obj)} {Q : Value → Shared → Prop} {E : Value → Shared → Prop} (h : Names X x c) (S : Inv (X.suite a pn) [] σ H s) (q : Q c s) :
    wpAny (model X.prog X.w) (X.A.mark (some (.ref a))) (eval (.Name x p) X.env) Q E s := by
  obtain ⟨hg, nd, hm | ⟨hm, hv, hn⟩⟩ := h
  · exact ld_glob (X := X.suite a pn) S hg hm q nd
  · exact ld_blt (X := X.suite a pn) S hg hm hv q hn nd
theorem names_run {pn : List (Addr × Obj)} {p : Pos} {E : Value → Shared → Prop} (S : Inv (X.suite a pn) [] σ H s) : ∀ {es : List Expr} {cs : List Value}, NamesL X es cs → ∀ {Q : List Value → Shared → Prop}, Q cs s →
    wpAny (model X.prog X.w) (X.A.mark (some (.ref a))) (spliced (backTo p (starEach es X.env))) Q E s
  | _, _, .nil, _, q => wpAny_items_nil q
  | _, _, .cons h r, _, q => wpAny_items_cons (name_run h S (names_run S r q))
theorem test_run {t : Expr} {cs : List Value} {pn : List (Addr × Obj)} {b : Bool} {Q : Bool → Shared → Prop} {E : Value → Shared → Prop} (T : TestE X t cs) (S : Inv (X.suite a pn) [] σ H s)
    (LT : PySem.W.Looks (model X.prog X.w) s.heap (typeOf (.ref a)) cls) (he : PySem.W.exmAny X.K cls cs = some b) (q : ∀ h', (∀ c o, s.heap.get? c = some o → h'.get? c = some o) → Q b { s with heap := h' }) :
    wpAny (model X.prog X.w) (X.A.mark (some (.ref a))) (eval t X.env) (fun c s1 => wpAny (model X.prog X.w) (X.A.mark (some (.ref a))) (excMatches (.ref a) c) Q E s1) E s := by
  cases T with
  | one h =>
    obtain ⟨b1, d1, x1, y1, e⟩ := PySem.W.exmAny_cons he
    have z : some false = some d1 := y1
    cases z
    rw [Bool.or_false] at e
    subst e
    exact name_run h S ((PySem.W.exm_one S.kIn LT x1).here (q s.heap fun _ _ z => z))
  | tup h hl =>
    refine wpAny_Tuple (names_run S h ⟨by rw [sizeLine_eq]; omega, ?_⟩)
    have k : ∀ c o, s.heap.get? c = some o → (s.heap.push { cls := .type "tuple", data := .seq cs.toArray }).get? c = some o := fun _ _ z => Heap.get?_push_of_some _ z
    exact (PySem.G9X.exm_tupN (S.kIn.keeps k) (LT.keeps k) (Heap.get?_push_size s.heap rfl) he).here (q _ k)
end

theorem ps_tryX {X : Cx} {body : List Stmt} {h₀ : ExceptHandler} {hds : List ExceptHandler} {l : List Hd} {pos : Pos} {tb : WX → TS} {Wout : WX}
    (hs : X.stack = X.env :: X.outer) (hf : X.env.frame = some X.env.locals) (hN : X.N.Nodup) (tk : Takes X Wout)
    (hb : ∀ (W : WX) (pn : List (Addr × Obj)) (xe : Value → Shared → Prop), Takes (X.tr pn xe) W → PassesOwn (model X.prog X.w) X.A X.env xe → PSs (X.tr pn xe) body (tb W))
    (hh : HdsX X (h₀ :: hds) l) : PS X (.Try body (h₀ :: hds) [] [] pos) (fun D σ H => tb (wX X.K Wout D l) D σ H) := by
  refine ⟨fun pins s σ H D I h => ?_⟩
  have ok := I.ok
  have stk : X.A.frames = some (X.env :: X.outer) := by rw [ok.frames, hs]
  refine wpAny_Try_except (wpAny_mono ((hb (wX X.K Wout D l) (X.pn ++ pins) (fun e s₁ => wpAny (model X.prog X.w) X.A (noteFrame e X.env) (fun _ s₂ => wpAny (model X.prog X.w) X.A (setFlight e none) (fun _ s₃ =>
    wpAny (model X.prog X.w) X.A (handleBy e X.env (h₀ :: hds)) (SP X pins D) X.xe s₃) X.xe s₂) X.xe s₁) (fun u s' xx => ?_) PassesOwn.looking).run [] s σ H D (I.toTry _) h) (fun fl s1 hsp => ?_) fun e s1 he => he)
  · obtain ⟨a, B, sI, pins', σ1, H1, cls, d, rfl, J', nb, up, sky, na, os, ag, w⟩ := xx
    have J : Inv X pins σ1 H1 sI := J'.ofTry ok
    have sky' : Sky B (X.env :: X.outer) a (Zc cls d) X.env.locals s'.heap := by rw [← hs]; exact sky
    show wpAny (model X.prog X.w) X.A (noteFrame (.ref a) X.env) _ _ _
    refine Sky.land Zc.steady stk hf sky' fun h3 fl3 up3 => ?_
    obtain ⟨oe3, vs3, he3, hz3, hd3⟩ := fl3.there
    have notFr : a ∉ frs (X.env :: X.outer) := fun hm => by
      obtain ⟨_, o', e', hnf⟩ := fl3.2.2.1.mem hm
      rw [he3] at e'
      cases e'
      exact hnf _ hd3
    have nI : sI.heap.get? a = none := by
      cases e : sI.heap.get? a with
      | none => rfl
      | some o =>
        have z := nb a o e (by rw [hs]; exact notFr)
        rw [fl3.2.1] at z
        cases z
    -- the clauses, one after the other
    have go : ∀ {hds' : List ExceptHandler} {l' : List Hd}, HdsX X hds' l' → wX X.K Wout D l' cls d σ1 H1 → ∀ h4 : Heap, HandSPX.FlyingZ B (X.env :: X.outer) a (Zc cls d) h4 → sI.heap.UpToSlots h4 →
        wpAny (model X.prog X.w) X.A (handleBy (.ref a) X.env hds') (SP X pins D) X.xe { s' with heap := h4 } := by
      intro hds' l' hk
      have suite : ∀ {h5 : Heap}, HandSPX.FlyingZ B (X.env :: X.outer) a (Zc cls d) h5 → sI.heap.UpToSlots h5 → Inv (X.suite a (X.pn ++ pins)) [] σ1 (upd H1 a (exv a cls d)) { s' with heap := h5 } := fun fl u => by
        obtain ⟨oe, vs, e, z, dt⟩ := fl.there
        exact inv_suiteX J (J.landed nb fl.1 u os ag) nI na e z dt
      have look : ∀ {h5 : Heap}, HandSPX.FlyingZ B (X.env :: X.outer) a (Zc cls d) h5 → PySem.W.Looks (model X.prog X.w) h5 (typeOf (.ref a)) cls := fun fl A Q E s k q => by
        obtain ⟨oe, vs, e, z, dt⟩ := fl.there
        exact wpAny_typeOf_ref (k _ _ e) (by rw [z.1]; exact q)
      induction hk with
      | nil =>
        intro w h4 fl4 up4
        refine wpAny_handleBy_nil ?_
        obtain ⟨_, _, _, oe, vs, T, oT, ts', he, hz, hd, h1, hr⟩ := id fl4
        unfold PySem.passOn
        refine wpAny_bind (wpAny_field he hd h1 ?_)
        rw [if_neg (show ¬ ((Value.ref T == Value.none) = true) from by simp)]
        have fin : wpAny (model X.prog X.w) X.A (setFlight (.ref a) X.env.frame) (fun _ s4 => wpAny (model X.prog X.w) X.A (throw (.ref a) : Sem Flow) (SP X pins D) X.xe s4) X.xe { s' with heap := h4 } := by
          rw [hf]
          exact HandSPX.setFlight_upZ fl4 fun h5 hh5 up5 => wpAny_throw (tk _ _ ⟨a, B, sI, pins, σ1, H1, cls, d, rfl, J, nb, up4.trans up5, Or.inr (Or.inr (by rw [hs]; exact hh5)), na, os, ag, w⟩)
        first
          | exact wpAny_bind (wpAny_pure (wpAny_bind fin))
          | exact wpAny_bind fin
      | @only t cs b₀ suite' ts pos' hds2 l2 T hsu r ih =>
        intro w h4 fl4 up4
        obtain ⟨b, hb1, yes, no⟩ := w
        refine wpAny_handleBy_cons (codeAny_handlers_test ?_) (by intro q; cases q)
        refine test_run T (suite fl4 up4) (look fl4) hb1 fun h5 k5 => ?_
        have fl5 := fly_keep k5 fl4
        have up5 := up4.trans (Heap.UpToSlots.of_keeps k5)
        cases b with
        | true =>
          refine codeAny_handlers_suite ?_
          refine HandSPX.lands_againZ fl5 fun h6 fl6 up6 => ?_
          refine wpAny_mono ((hsu a (X.pn ++ pins)).run [] _ _ _ _ (suite fl6 (up5.trans up6)) (yes rfl a (X.pn ++ pins) na)) (fun f s7 hq => ?_) fun _ _ z => False.elim z
          cases f with
          | next => exact hq.elim fun σ6 z => z.elim fun H6 z => ⟨σ6, H6, inv_unsuiteX z.1 ok, z.2⟩
          | brk => exact hq.elim fun σ6 z => z.elim fun H6 z => ⟨σ6, H6, inv_unsuiteX z.1 ok, z.2⟩
          | cont => exact hq.elim fun σ6 z => z.elim fun H6 z => ⟨σ6, H6, inv_unsuiteX z.1 ok, z.2⟩
          | ret u => exact hq.elim fun v6 z => z.elim fun σ6 z => z.elim fun H6 z => ⟨v6, σ6, H6, inv_unsuiteX z.1 ok, z.2⟩
        | false =>
          show wpAny _ X.A (handleBy (.ref a) X.env hds2) _ _ _
          exact ih (no rfl) h5 fl5 up5
      | @as t cs n i b₀ suite' ts pos' hds2 l2 T hi hl hsu r ih =>
        intro w h4 fl4 up4
        obtain ⟨b, hb1, yes, no⟩ := w
        refine wpAny_handleBy_cons (codeAny_handlers_test ?_) (by intro q; cases q)
        refine test_run T (suite fl4 up4) (look fl4) hb1 fun h5 k5 => ?_
        have fl5 := fly_keep k5 fl4
        have up5 := up4.trans (Heap.UpToSlots.of_keeps k5)
        cases b with
        | true =>
          refine codeAny_handlers_suite_as ?_
          refine HandSPX.lands_againZ fl5 fun h6 fl6 up6 => ?_
          refine store_ok (X := X.suite a (X.pn ++ pins)) (v := .ref a) (suite fl6 (up5.trans up6)) hN hi (.inl hl) rfl (fun s7 S7 => ?_) (.inr hl)
          refine wpAny_mono ((hsu a (X.pn ++ pins)).run [] s7 _ _ _ S7 (yes rfl a (X.pn ++ pins) na)) (fun f s8 hq => ?_) fun _ _ z => False.elim z
          have end_ : ∀ {σ6 : L2.St} {H6 : Hp} {Q : Shared → Prop}, Inv (X.suite a (X.pn ++ pins)) [] σ6 H6 s8 → (∀ s9, Inv X pins (σ6.set i none) H6 s9 → Q s9) →
              wpAny (model X.prog X.w) X.A (do bindName X.env n .none; unbindBehindTheSuite X.env n pos') (fun _ s9 => Q s9) X.xe s8 := fun {σ6 H6 Q} S hq => gone_ok (inv_unsuiteX S ok) hN hi hl hq
          cases f with
          | next =>
            obtain ⟨σ6, H6, S6, q6⟩ := hq
            exact end_ S6 fun s9 J9 => ⟨_, _, J9, q6⟩
          | brk =>
            obtain ⟨σ6, H6, S6, q6⟩ := hq
            exact end_ S6 fun s9 J9 => ⟨_, _, J9, q6⟩
          | cont =>
            obtain ⟨σ6, H6, S6, q6⟩ := hq
            exact end_ S6 fun s9 J9 => ⟨_, _, J9, q6⟩
          | ret u =>
            obtain ⟨v6, σ6, H6, S6, r6, q6⟩ := hq
            exact end_ S6 fun s9 J9 => ⟨_, _, _, J9, r6, q6⟩
        | false =>
          show wpAny _ X.A (handleBy (.ref a) X.env hds2) _ _ _
          exact ih (no rfl) h5 fl5 up5
    exact go hh w h3 fl3 (up.trans up3)
  · cases fl with
    | next =>
      obtain ⟨σ', H', J', q⟩ := hsp
      exact wpAny_execs_nil ⟨σ', H', J'.ofTry ok, q⟩
    | brk =>
      obtain ⟨σ', H', J', q⟩ := hsp
      exact ⟨σ', H', J'.ofTry ok, q⟩
    | cont =>
      obtain ⟨σ', H', J', q⟩ := hsp
      exact ⟨σ', H', J'.ofTry ok, q⟩
    | ret u =>
      obtain ⟨v, σ', H', J', r, q⟩ := hsp
      exact ⟨v, σ', H', J'.ofTry ok, r, q⟩
end G9

namespace G9
open PySem PySem.Spec PyProof.Rows L2
/-! ### own exception classes of the text: their facts, asked at once -/
def same (a b : Option (Option Value)) : Bool := decide (a = b)
def excCB (K : PySem.W.Frag) (C : Addr) : Bool :=
  same (PySem.W.findIn K (.ref C) "__getattribute__") (some (some (.builtin "BaseException.__getattribute__"))) && (same (PySem.W.findIn K (.ref C) "__getattr__") (some none) && (decide (PySem.W.subIn K (.ref C) (.type "BaseException") = some true) && (PySem.W.hasDictIn K C &&
    (same (PySem.W.findIn K (.ref C) "__class__") (some (some (.builtin "object.__class__"))) && (same (PySem.W.specialIn K (.builtin "object.__class__") "__get__") (some (some (.builtin "getset_descriptor.__get__"))) &&
      (decide (PySem.W.takesIn K (.builtin "object.__class__") = some true) && (decide (PySem.W.mroIn K C (.type "object") = some true) && (decide (PySem.W.typeIn K (.ref C) = some (.type "type")) && PySem.W.keepIn K (.ref C)))))))))
theorem b2 {a b : Bool} (h : (a && b) = true) : a = true ∧ b = true := Bool.and_eq_true_iff.mp h
theorem same_ok {a b : Option (Option Value)} (h : same a b = true) : a = b := of_decide_eq_true h
theorem excCB_ok {K : PySem.W.Frag} {C : Addr} (h : excCB K C = true) : ExcC K C ∧ XfC K C ∧ PySem.W.typeIn K (.ref C) = some (.type "type") ∧ PySem.W.keepIn K (.ref C) = true := by
  obtain ⟨h1, h⟩ := b2 h
  obtain ⟨h2, h⟩ := b2 h
  obtain ⟨h3, h⟩ := b2 h
  obtain ⟨h4, h⟩ := b2 h
  obtain ⟨h5, h⟩ := b2 h
  obtain ⟨h6, h⟩ := b2 h
  obtain ⟨h7, h⟩ := b2 h
  obtain ⟨h8, h⟩ := b2 h
  obtain ⟨h9, h10⟩ := b2 h
  exact ⟨⟨same_ok h1, same_ok h2, of_decide_eq_true h3, h4, same_ok h5, same_ok h6, of_decide_eq_true h7, of_decide_eq_true h8⟩, ⟨same_ok h1, same_ok h2, of_decide_eq_true h3, h4⟩, of_decide_eq_true h9, h10⟩
/-- the class object, as such classes have it -/
def shapeB (K : PySem.W.Frag) (C : Addr) (newId : String) (tl : List Value) : Bool := match K.lookup C with
  | some ⟨.type c, _, .cls cd, sl⟩ => (match cd.mro, sl.toList with
    | .ref D :: bm, [_, _, _, _, some (.builtin n), _] => (c == "type") && ((D == C) && (refsThen tl bm && ((n == newId) && (cd.hasDict && !cd.hasDel))))
    | _, _ => false)
  | _ => false
theorem shapeB_ok {K : PySem.W.Frag} {C : Addr} {newId : String} {tl : List Value} (h : shapeB K C newId tl = true) :
    ∃ nm q N bs bm sn sub ab col dd k0 k1 k2 k3 k5, K.lookup C = some (excClassObj nm q C N bs bm true sn sub ab col dd k0 k1 k2 k3 k5 newId) ∧ refsThen tl bm = true := by
  unfold shapeB at h
  split at h
  · rename_i c dd cd sl ho
    split at h
    · rename_i D bm k0 k1 k2 k3 n k5 hm hs
      obtain ⟨h1, h⟩ := b2 h
      obtain ⟨h2, h⟩ := b2 h
      obtain ⟨h3, h⟩ := b2 h
      obtain ⟨h4, h⟩ := b2 h
      obtain ⟨h5, h6⟩ := b2 h
      obtain ⟨nm, bs, mro, ns, qn, hd, sn, sub, ab, col, del⟩ := cd
      dsimp only at hm h5 h6
      have e1 : c = "type" := beq_iff_eq.mp h1
      have e2 : D = C := beq_iff_eq.mp h2
      have e4 : n = newId := beq_iff_eq.mp h4
      subst e1 e2 e4 hm h5
      have e6 : del = false := by simpa using h6
      subst e6
      have es : sl = #[k0, k1, k2, k3, some (.builtin n), k5] := by
        obtain ⟨l⟩ := sl
        simp only at hs
        rw [hs]
      subst es
      exact ⟨nm, qn, ns, bs, bm, sn, sub, ab, col, dd, k0, k1, k2, k3, k5, ho, h3⟩
    · cases h
  · cases h

/-- an own exception class without own __init__ -/
structure Own0 (K : PySem.W.Frag) (mg : Str → Option Value) (x : Str) (C : Addr) (newId : String) (tl : List Value) : Prop where
  m : mg x = some (.ref C)
  q : PySem.W.excIn K C tl newId = true
  ec : ExcC K C
  xf : XfC K C
  ty : PySem.W.typeIn K (.ref C) = some (.type "type")
  kC : PySem.W.keepIn K (.ref C) = true
def own0B (K : PySem.W.Frag) (C : Addr) (newId : String) (tl : List Value) : Bool := PySem.W.excIn K C tl newId && excCB K C
theorem own0_mk {K : PySem.W.Frag} {mg : Str → Option Value} {x : Str} {C : Addr} {newId : String} {tl : List Value} (m : mg x = some (.ref C)) (h : own0B K C newId tl = true) : Own0 K mg x C newId tl := by
  obtain ⟨h1, h2⟩ := b2 h
  obtain ⟨a, b, c, d⟩ := excCB_ok h2
  exact ⟨m, h1, a, b, c, d⟩
/-- an own exception class with an own __init__ that says super().__init__(..); self.f = pn -/
structure Own1 (P : Program) (K : PySem.W.Frag) (mg : Str → Option Value) (x : Str) (C fI : Addr) (fd : FuncData) (B newId initId : String) (tl : List Value) (qual me pn f : Str) (st : Stmt) : Prop where
  m : mg x = some (.ref C)
  o : OexB B newId initId tl K C
  iC : PySem.W.findIn K (.ref C) "__init__" = some (some (.ref fI))
  tI : PySem.W.typeIn K (.ref fI) = some (.type "function")
  no : PySem.W.findIn K (.ref C) f = some none
  F : SupFn P K mg qual me st fI C fd
  b : Binds K fd [me, pn] []
  ec : ExcC K C
  xf : XfC K C
def own1B (K : PySem.W.Frag) (C fI : Addr) (B newId initId : String) (tl : List Value) (f : Str) : Bool :=
  shapeB K C newId tl && (same (PySem.W.findIn K (.ref C) "__setattr__") (some (some (.builtin "object.__setattr__"))) && (decide (PySem.W.subIn K (.ref C) (.type B) = some true) && (same (PySem.W.nsIn K cStatics "thirdparty.any") (some none) &&
    (same (PySem.W.ks_superIn K C C "__init__") (some (some (.builtin initId))) && (decide (PySem.W.typeIn K (.ref fI) = some (.type "function")) && (same (PySem.W.findIn K (.ref C) f) (some none) && excCB K C))))))
theorem own1_mk {P : Program} {K : PySem.W.Frag} {mg : Str → Option Value} {x : Str} {C fI : Addr} {fd : FuncData} {B newId initId : String} {tl : List Value} {qual me pn f : Str} {st : Stmt} (T : BaseB B newId initId tl) (m : mg x = some (.ref C))
    (iC : PySem.W.findIn K (.ref C) "__init__" = some (some (.ref fI))) (F : SupFn P K mg qual me st fI C fd) (b : Binds K fd [me, pn] []) (h : own1B K C fI B newId initId tl f = true) : Own1 P K mg x C fI fd B newId initId tl qual me pn f st := by
  obtain ⟨h1, h⟩ := b2 h
  obtain ⟨h2, h⟩ := b2 h
  obtain ⟨h3, h⟩ := b2 h
  obtain ⟨h4, h⟩ := b2 h
  obtain ⟨h5, h⟩ := b2 h
  obtain ⟨h6, h⟩ := b2 h
  obtain ⟨h7, h8⟩ := b2 h
  obtain ⟨e1, e2, e3, e4⟩ := excCB_ok h8
  exact ⟨m, ⟨T, shapeB_ok h1, same_ok h2, e1.hs, e3, e4, of_decide_eq_true h3, same_ok h4, same_ok h5⟩, iC, of_decide_eq_true h6, same_ok h7, F, b, e1, e2⟩
/-! ### isinstance, except: which class stands under which -/
def isTab (K : PySem.W.Frag) (cs : List Addr) (ds : List Value) : List (List (Option Bool)) := cs.map fun c => ds.map fun d => PySem.W.kitOne K (.ref c) d
theorem isTab_at {K : PySem.W.Frag} {cs : List Addr} {ds : List Value} {tab : List (List (Option Bool))} (h : isTab K cs ds = tab) {i j : Nat} {c : Addr} {d : Value} {r : List (Option Bool)} {b : Option Bool} (hc : cs[i]? = some c) (hd : ds[j]? = some d) (hr : tab[i]? = some r) (hb : r[j]? = some b) :
    PySem.W.kitOne K (.ref c) d = b := by
  subst h
  unfold isTab at hr
  rw [List.getElem?_map, hc] at hr
  cases hr
  rw [List.getElem?_map, hd] at hb
  exact Option.some.inj hb
def exTab (K : PySem.W.Frag) (cs : List Addr) : List (List (Option Bool)) := cs.map fun c => cs.map fun d => PySem.W.exmOne K (.ref c) (.ref d)
theorem exTab_at {K : PySem.W.Frag} {cs : List Addr} {tab : List (List (Option Bool))} (h : exTab K cs = tab) {i j : Nat} {c d : Addr} {r : List (Option Bool)} {b : Option Bool} (hc : cs[i]? = some c) (hd : cs[j]? = some d) (hr : tab[i]? = some r) (hb : r[j]? = some b) :
    PySem.W.exmOne K (.ref c) (.ref d) = b := by
  subst h
  unfold exTab at hr
  rw [List.getElem?_map, hc] at hr
  cases hr
  rw [List.getElem?_map, hd] at hb
  exact Option.some.inj hb
/-- a def in a class with super(): from the written part -/
theorem supFn_mk {P : Program} {K : PySem.W.Frag} {mg : Str → Option Value} {qual me : Str} {st : Stmt} {f C : Addr} {oc kV doc pm ct ccl cl : Value} {od an cdd cld : Option Addr} {osl ccs csl : Array (Option Value)} {cda cc : Addr} {vs : Array Value} {file : Str} {tf : Tok}
    (lk : K.lookup f = some ⟨oc, od, .func (PySem.W.fnX "__init__" qual (defArgs st) (defBody st) (defScope st) [("__class__", cc)] .none kV doc pm an (.ref cda) ct), osl⟩) (cd : PySem.W.codeIn K (.ref cda) qual = true) (hcode : K.lookup cda = some ⟨ccl, cdd, .fields vs, ccs⟩)
    (hvs : vs[2]? = some (.str file tf)) (hfile : ((P.main.file : Str) == file) = true) (hcell : K.lookup cc = some ⟨cl, cld, .cell (some (.ref C)), csl⟩) (top : (P.main.scope.names.lookup ("super" : Str)).isSome = false) (sup : mg "super" = none)
    (ar : ((defArgs st).posonlyargs ++ (defArgs st).args).head?.map (·.arg) = some me) :
    SupFn P K mg qual me st f C (PySem.W.fnX "__init__" qual (defArgs st) (defBody st) (defScope st) [("__class__", cc)] .none kV doc pm an (.ref cda) ct) :=
  ⟨⟨oc, kV, doc, pm, ct, ccl, cl, od, an, cdd, cld, osl, ccs, csl, cda, cc, vs, file, tf, rfl, lk, cd, hcode, hvs, hfile, hcell⟩, top, sup, ar⟩
end G9

namespace G9
open PySem PySem.Spec PyProof.Rows L2
section
variable {X : Cx} {CX : CXT} {k : Nat} {f : Addr} {fd : FuncData} {ps : List Str} {sp : Sp} {E : L2.St → XK} {x : Str} {p pos : Pos} {e : Expr} {es : List Expr} {t : TA}
/-- a call that may raise; what is wanted of the exception hangs on the slots -/
theorem pe_callGS (F : FnG X.prog X.w X.K X.mg X.base CX k f fd ps sp) (room : RoomG k X.A) (hg : Gl X x) (hm : X.mg x = some (.ref f)) (hk : PySem.W.keepIn X.K (.ref f) = true) (hb : Binds X.K fd ps []) (hx : ∀ σ, PassesAt CX X σ (E σ))
    (ha : PA X (e :: es) t) (nd : (x == ("__debug__" : Str)) = false := by decide) (he : starEach (e :: es) X.env = (false, eval e X.env) :: starEach es X.env := by rfl) (hp : (backTo pos (starEach es X.env)).any (·.1) = false := by rfl) :
    PE X (.Call (.Name x p) (e :: es) [] pos) (tCallS sp E t) := by
  constructor
  intro pins s σ H Q I want
  refine wpAny_Call_Name_kw (ld_glob I hg hm ?_ nd)
  refine PySem.W.callWith_K (h₀ := X.base) I.ok.mod.kin hk (thn (ha.run pos pins s σ H _ I want) fun us z ⟨vs, G, J, r, q⟩ => ⟨J.kIn, ?_⟩) he hp
  have len : us.length = ps.length := r.length.symm.trans (F.count _ _ _ _ q)
  have bd := hb z us J.kIn (by rw [List.append_nil]; exact len)
  rw [List.append_nil] at bd
  refine wpAny_call (codeAny_mono (F.goes X.A X.stack z G ⟨us, []⟩ us vs Q (E σ) room J.env0 bd r q) ?_)
  intro res z' hz
  match res, hz with
  | .error e, hz => exact hx σ pins G z e z' J hz
  | .ok (.ret u), hz => exact J.after hz
end
section
variable {P : Program} {w : World} {K : PySem.W.Frag} {mg : Str → Option Value} {base : Heap} {k : Nat} {f : Addr} {fd : FuncData} {ps N : List Str} {sp : Sp}
/-- a def that may raise -/
theorem okGX {x qual : Str} {st : Stmt} (F : Fun K x qual st f fd) (S : FnScope N ps (defScope st)) (count : ∀ vs H Q E, sp vs H Q E → vs.length = ps.length)
    (hb : ∀ (cdv : Value) (A : Around) (fs : List Env) (s : Shared) (H : Hp) (vs : List V) (Q : VK) (E : XK), RoomG k (A.deeper (envOfC qual (defScope st) s.heap.objs.size f cdv)) → sp vs H Q E →
      Takes (cxOf (L2.CX P w) P w K mg base N qual (defScope st) f cdv A fs s H E) (fun cls d _ H => E cls d H) →
      ∃ t, PSs (cxOf (L2.CX P w) P w K mg base N qual (defScope st) f cdv A fs s H E) (defBody st) t ∧ t { nx := fun _ G => Q .non G, rt := Q } (start N vs) H) : FnG P w K mg base (L2.CX P w) (k + 1) f fd ps sp := by
  obtain ⟨_, _, _, _, _, _, cdv, _, _, rfl, lk, cd⟩ := F.ex
  exact by_body lk cd S count fun A fs s H vs Q E room want => hb cdv A fs s H vs Q E room want (takes_of rfl rfl rfl rfl)
end
/-- the def of an own exception class, by its text -/
theorem init_of {P : Program} {w : World} {K : PySem.W.Frag} {mg : Str → Option Value} {base : Heap} {x : Str} {C fI : Addr} {fd : FuncData} {B newId initId : String} {tl : List Value} {qual me pn f : Str} {st : Stmt} {N : List Str} {ej : Expr} {p0 p1 p2 p7 p8 p9 p10 p11 p12 : Pos} {te : TE}
    (O : Own1 P K mg x C fI fd B newId initId tl qual me pn f st) (S : SupScope N [me, pn] me (defScope st))
    (hbody : defBody st = [.Expr (.Call (.Attribute (.Call (.Name "super" p0) [] [] p1) "__init__" p2) [ej] [] p7) p8, .Assign [.Attribute (.Name me p9) f p10] (.Name pn p11) p12])
    (dbg : (me == ("__debug__" : Str)) = false ∧ (me == ("__classdict__" : Str)) = false ∧ (pn == ("__debug__" : Str)) = false ∧ (pn == ("__classdict__" : Str)) = false)
    (hev : ∀ X : Cx, ∃ pl : Sem Bool, eval (.Call (.Attribute (.Call (.Name "super" p0) [] [] p1) "__init__" p2) [ej] [] p7) X.env = (do
      let ov ← attributeBase (.Call (.Name "super" p0) [] [] p1) "__init__" X.env (eval (.Call (.Name "super" p0) [] [] p1) X.env)
      standAt p2.atName
      let (f, first) ← holding [ov] (getMethod ov "__init__" pl)
      callWith p7 f first (backTo p7 (starEach [ej] X.env)) [])) (hst : ∀ X : Cx, starEach [ej] X.env = (false, eval ej X.env) :: starEach [] X.env)
    (hsw : ∀ X : Cx, swapsWith (.Name pn p11) (some (.Attribute (.Name me p9) f p10)) p12.line X.env = pure false) (k : Nat)
    (hj : ∀ X : Cx, X.K = K → RoomG k X.A → X.N[1]? = some pn → Vis X.env.scope pn → PE X ej te)
    (ht : ∀ (σ : L2.St) (H : Hp) (Q : VK) (v : V), σ[1]? = some (some v) → Shw K H v → (∀ y : Str, Q (.str y) H) → te σ H Q) :
    FnG P w K mg base CX0 (k + 1) fI fd [me, pn] (spInit C f K) := init_def O.o O.F S hbody O.no dbg hev hst hsw hj ht
end G9

namespace G9
open PySem PySem.Spec PyProof.Rows L2
/-! ### the text of such an error: some text that shows the value -/
def tSome (K : PySem.W.Frag) : TE := fun σ H Q => ∃ v, σ[1]? = some (some v) ∧ Shw K H v ∧ ∀ y : Str, Q (.str y) H
section
variable {X : Cx} {k : Nat} {m m2 pn : Str} {j j2 : Nat} {p3 p4 p5 p6 p7 : Pos}
theorem str_len {a b : Str} : (a ++ b).length = a.length + b.length := strLen_append a b
theorem pe_j2 (room : RoomG k X.A) (hN : X.N[1]? = some pn) (hv : Vis X.env.scope pn) (d1 : (pn == ("__debug__" : Str)) = false) (d2 : (pn == ("__classdict__" : Str)) = false) (hm : m.length ≤ 500) :
    PE X (.JoinedStr [.Constant (.str m) j p3, .FormattedValue (.Name pn p4) 114 none p5] p6) (tSome X.K) := by
  have h := pe_joined (pos := p6) (PJ.cons (pe_str (X := X) (x := m) (j := j) (pos := p3)) (PJ.cons (pe_shw (pos := p5) room (pe_var (pos := p4) hN hv d1 d2)) PJ.nil))
  refine ⟨fun pins s σ H Q I q => h.run pins s σ H Q I ?_⟩
  obtain ⟨v, e, sh, q⟩ := q
  have e0 : (Str.empty ++ m).length = m.length := by rw [str_len]; exact Nat.zero_add _
  refine ⟨m, rfl, by rw [e0, sizeLine_eq]; omega, v, e, sh, fun y hy => ⟨y, rfl, ?_, q _⟩⟩
  rw [str_len, e0]
  omega
theorem pe_j3 (room : RoomG k X.A) (hN : X.N[1]? = some pn) (hv : Vis X.env.scope pn) (d1 : (pn == ("__debug__" : Str)) = false) (d2 : (pn == ("__classdict__" : Str)) = false) (hm : m.length ≤ 400) (hm2 : m2.length ≤ 400) :
    PE X (.JoinedStr [.Constant (.str m) j p3, .FormattedValue (.Name pn p4) 114 none p5, .Constant (.str m2) j2 p7] p6) (tSome X.K) := by
  have h := pe_joined (pos := p6) (PJ.cons (pe_str (X := X) (x := m) (j := j) (pos := p3)) (PJ.cons (pe_shw (pos := p5) room (pe_var (pos := p4) hN hv d1 d2)) (PJ.cons (pe_str (X := X) (x := m2) (j := j2) (pos := p7)) PJ.nil)))
  refine ⟨fun pins s σ H Q I q => h.run pins s σ H Q I ?_⟩
  obtain ⟨v, e, sh, q⟩ := q
  have e0 : (Str.empty ++ m).length = m.length := by rw [str_len]; exact Nat.zero_add _
  refine ⟨m, rfl, by rw [e0, sizeLine_eq]; omega, v, e, sh, fun y hy => ⟨y, rfl, ?_, m2, rfl, ?_, q _⟩⟩
  · rw [str_len, e0]
    omega
  · rw [str_len, str_len, e0]
    omega
end
theorem sql_S {K : PySem.W.Frag} {H G : Hp} {a : Addr} {xs : List V} (s : Same H G) (h : SqL K H a xs) : SqL K G a xs := s.seq h
mutual
theorem dp_same {K : PySem.W.Frag} {H G : Hp} (s : Same H G) : ∀ {v : V} {d : PyData}, Dp K H v d → Dp K G v d
  | _, _, .non => .non
  | _, _, .bl b => .bl b
  | _, _, .int i => .int i
  | _, _, .str x => .str x
  | _, _, .lst h r => .lst (s.seq h) (dps_same s r)
  | _, _, .tup h r => .tup (sqt_same s h) (dps_same s r)
theorem dps_same {K : PySem.W.Frag} {H G : Hp} (s : Same H G) : ∀ {vs : List V} {ds : List PyData}, DpAll K H vs ds → DpAll K G vs ds
  | _, _, .nil => .nil
  | _, _, .cons h r => .cons (dp_same s h) (dps_same s r)
end
theorem s_callS {sp : Sp} {E : L2.St → XK} {t : TA} {σ : L2.St} {H : Hp} {Q : VK} (q : t σ H fun vs H1 => sp vs H1 Q (E σ)) : tCallS sp E t σ H Q := q
/-- what can be shown, whatever is new -/
def ShwU (K : PySem.W.Frag) (H : Hp) (v : V) : Prop := ∀ a o, H a = none → Shw K (upd H a o) v
theorem shw_same {K : PySem.W.Frag} {H G : Hp} {v : V} (s : Same H G) (h : Shw K H v) : Shw K G v := by
  rcases h with h | h | h | h | ⟨p, d, e, hd, r⟩ | ⟨p, kvs, ds, e, hd, r⟩
  · exact Or.inl h
  · exact Or.inr (Or.inl h)
  · exact Or.inr (Or.inr (Or.inl h))
  · exact Or.inr (Or.inr (Or.inr (Or.inl h)))
  · exact Or.inr (Or.inr (Or.inr (Or.inr (Or.inl ⟨p, d, e, dp_same s hd, r⟩))))
  · exact Or.inr (Or.inr (Or.inr (Or.inr (Or.inr ⟨p, kvs, ds, e, s _ _ hd, r⟩))))
theorem shw_u {K : PySem.W.Frag} {H : Hp} {v : V} (h : Shw K H v) : ShwU K H v := fun a o n => shw_same (Same.upd0 n) h
end G9

namespace G9
open PySem PySem.Spec PyProof.Rows L2
theorem XAt.same {H G : Hp} {a C : Addr} {od : Option Addr} {fs : List (Str × V)} (s : Same H G) (x : XAt H a C od fs) : XAt G a C od fs := by
  obtain ⟨⟨φ, e, k⟩, y⟩ := x
  refine ⟨⟨φ, s _ _ e, k⟩, ?_⟩
  cases od with
  | none => exact y
  | some d =>
    rcases y with e | e
    · exact Or.inl (s _ _ e)
    · exact Or.inr (s _ _ e)
section
variable {K : PySem.W.Frag} {H : Hp} {a C D : Addr} {od : Option Addr} {fs : List (Str × V)} {b : Bool} {Q : VK} {n : String}
theorem l_isX (T : ExcC K C) (x : XAt H a C od fs) (k : PySem.W.kitOne K (.ref C) (.ref D) = some b) (q : Q (.bl b) H) : rIsX K [.ref a, .ref D] H Q := ⟨a, C, od, fs, .ref D, .ref D, b, rfl, T, x, fun u r => r, k, q⟩
theorem l_isXt (T : ExcC K C) (x : XAt H a C od fs) (k : PySem.W.kitOne K (.ref C) (.type n) = some b) (q : Q (.bl b) H) : rIsX K [.ref a, .ty n] H Q := ⟨a, C, od, fs, .ty n, .type n, b, rfl, T, x, fun u r => r, k, q⟩
end
theorem isTab_of {K : PySem.W.Frag} {cs : List Addr} {ds : List Value} {f : Nat → Nat → Bool} {n m : Nat} (h : isTab K cs ds = (List.range n).map fun i => (List.range m).map fun j => some (f i j)) {i j : Nat} {c : Addr} {d : Value} (hi : i < n) (hj : j < m) (hc : cs[i]? = some c) (hd : ds[j]? = some d) :
    PySem.W.kitOne K (.ref c) d = some (f i j) :=
  isTab_at (r := (List.range m).map fun j => some (f i j)) h hc hd (by rw [List.getElem?_map, List.getElem?_range hi]; rfl) (by rw [List.getElem?_map, List.getElem?_range hj]; rfl)
theorem tk0 {X : Cx} : Takes X (fun _ _ _ _ => False) := takes_none5
theorem exTab_of {K : PySem.W.Frag} {cs : List Addr} {f : Nat → Nat → Bool} {n : Nat} (h : exTab K cs = (List.range n).map fun i => (List.range n).map fun j => some (f i j)) {i j : Nat} {c d : Addr} (hi : i < n) (hj : j < n) (hc : cs[i]? = some c) (hd : cs[j]? = some d) :
    PySem.W.exmOne K (.ref c) (.ref d) = some (f i j) :=
  exTab_at (r := (List.range n).map fun j => some (f i j)) h hc hd (by rw [List.getElem?_map, List.getElem?_range hi]; rfl) (by rw [List.getElem?_map, List.getElem?_range hj]; rfl)
end G9

namespace PySem
namespace SeqAt
/-- l.index(x, i0) -/
theorem index3At (l : Addr) (items : Array Value) (n : Nat) (dd : Option Addr) (sl : Array (Option Value)) (x : Value) (e : Value → Bool) (i0 j : Nat) (t : Tok) (hj : j < items.size) (hi : i0 ≤ j) (small : (j : Int) < 2 ^ 63 - 1)
    (hit : e items[j] = true) (hno : ∀ m (hm : m < items.size), i0 ≤ m → m < j → e items[m] = false) :
    Meets (Builtin.«list.index» ⟨[.ref l, x, .int (i0 : Int) t], []⟩)
      (fun A R s => s.heap.get? l = some { cls := .type "list", dict := dd, data := .seq items n, slots := sl } ∧ (∀ y, y ∈ items → EqAt A.in1 s y x (e y)) ∧ R (.ok (.ret (.int j s.toks))) { s with toks := s.toks + 1 }) := by
  intro prog w A R s h
  obtain ⟨hp, g, d, tk, os⟩ := s
  obtain ⟨hl, he, h⟩ := h
  have f1 := F.slot_int_index.lookup
  wp_walk using wpAny_loadPart' hl
  have a1 : ((fun i : Int => if i < 0 then max 0 (i + (items.size : Int)) else i) ((some (i0 : Int) : Option Int).getD 0)) = ((i0 : Nat) : Int) := by
    show (if (i0 : Int) < 0 then _ else (i0 : Int)) = (i0 : Int)
    rw [if_neg (by omega)]
  have a2 : ((fun i : Int => if i < 0 then max 0 (i + (items.size : Int)) else i) ((none : Option Int).getD (2 ^ 63 - 1))) = 2 ^ 63 - 1 := by simp
  all_goals
    rw [a1, a2]
    exact ⟨plainId_quiet MeetsSeq.plain_index_loop _, codeAny_builtin MeetsSeq.entry_index_loop (by
      rw [Around.under_plainId MeetsSeq.plain_index_loop _]
      exact index_loopAt l items n dd sl x e (2 ^ 63 - 1) j hj small hit _ i0 rfl hi hno prog w A R _ ⟨hl, he, h⟩)⟩
end SeqAt
end PySem
namespace G9
open PySem PySem.Spec PyProof.Rows L2
section
variable {X : Cx}
/-- l.index(y, i0), flat items -/
def rIndex3 (K : PySem.W.Frag) : V → List V → Hp → VK → Prop := fun x xs H Q => ∃ (a : Addr) (ys : List V) (y : V) (i0 j : Nat) (z : V), x = V.ref a ∧ xs = [y, .int (i0 : Int)] ∧ SqL K H a ys ∧ flatV y = true ∧ ys.all flatV = true ∧ i0 ≤ j ∧ ys[j]? = some z ∧ eqV z y = true ∧
  (∀ (m : Nat) (z' : V), i0 ≤ m → m < j → ys[m]? = some z' → eqV z' y = false) ∧ Q (.int (j : Nat)) H
theorem mt_index3 : MtR X "list.index" (rIndex3 X.K) := by
  intro pins s σ H x xs v us Q I rx rxs h
  obtain ⟨a, ys, y, i0, j, z, rfl, rfl, hs, fy, fys, hi, hz, hzj, hno, q⟩ := h
  cases rx
  cases rxs with
  | @cons _ uy _ _ ry rt =>
    cases rt with
    | @cons _ ui _ _ ri rn =>
      cases rn
      obtain ⟨ti, rfl⟩ := ri
      obtain ⟨its, rv, ⟨⟨cls, dd, data, sl⟩, n, ho, hc, hdn, hd⟩, hlen⟩ := I.list hs
      simp only at hc hd
      subst hc hd
      obtain ⟨u, hu, ru⟩ := rv.get hz
      obtain ⟨hjl, hje⟩ := List.getElem?_eq_some_iff.mp hu
      have hvl := rv.length
      have hj : j < its.toArray.size := by simpa using hjl
      have hsl := sizeLine_eq
      refine call_meets PySem.F.slot_list_index ⟨_, ho, rfl⟩ PySem.F.entry_list_index (PySem.F.args_list_index_3 _ _ _)
        (SeqAt.index3At a its.toArray n dd sl uy (eqU y) i0 j ti hj hi (by omega) ?_ ?_) ⟨ho, fun u' hu' => mem_eqAt ry fy rv fys u' (by simpa using hu'), ?_⟩
      · have e1 : its.toArray[j] = u := by simpa using hje
        rw [e1, eqU_of ru (flat_at fys hz)]
        exact hzj
      · intro m hm him hmj
        have hml : m < its.length := by simpa using hm
        have hmy : m < ys.length := by omega
        have hy' : ys[m]? = some ys[m] := List.getElem?_eq_getElem hmy
        obtain ⟨u2, hu2, ru2⟩ := rv.get hy'
        obtain ⟨_, hme⟩ := List.getElem?_eq_some_iff.mp hu2
        have e1 : its.toArray[m] = u2 := by simpa using hme
        rw [e1, eqU_of ru2 (flat_at fys hy')]
        exact hno m _ him hmj hy'
      · exact ⟨.int (j : Nat), H, I.tok _, ⟨_, rfl⟩, q⟩
end
end G9

namespace G9
open PySem PySem.Spec PyProof.Rows L2
section
variable {K : PySem.W.Frag} {σ : L2.St} {H : Hp} {Q : VK} {tl : TI} {tar : TA} {t : TT} {te : TE} {j : Nat} {g : TG} {tbd : TS} {D : Ends}
/-! ### comprehensions over range, loops over enumerate -/
def RngLc (g : TG) (tt : TT) (te : TE) (vs : List Nat) (σ : L2.St) (Q : VK) (us : List V) (H1 : Hp) : Prop := ∃ n : Int, us = [.int n] ∧ -(2 ^ 62) ≤ n ∧ n < 2 ^ 62 ∧ WLc (Itr 0 n.toNat) g tt te vs σ Q H1
theorem s_lcR (q : tar σ H fun us H1 => RngLc g t te [j] σ Q us H1) : tLc (iRng1 tar) g t te [j] σ H Q := q
def intsTo (n : Nat) : List V := (List.range n).map fun i => V.int (i : Nat)
theorem walk_ints {n : Nat} : Walk (Itr 0 n) (intsTo n).length (fun _ => True) (YAt (intsTo n)) := by
  have e : (intsTo n).length = n := by unfold intsTo; rw [List.length_map, List.length_range]
  rw [e]
  refine (walk_range (lo := 0) (n := n)).mono (fun _ _ => trivial) fun i H x H' hi _ y => ?_
  obtain ⟨rfl, rfl⟩ := y
  refine ⟨rfl, ?_⟩
  unfold intsTo
  rw [List.getElem?_map, List.getElem?_range hi]
  show some (V.int (i : Nat)) = some (V.int (0 + (i : Nat)))
  rw [Int.zero_add]
theorem l_lcR {n : Nat} (hn : n ≤ 100000) (keep : V → Bool) (f : V → V) (test : ∀ x ∈ intsTo n, ∀ G, Same H G → ToB t ((wipe σ [j]).set j (some x)) G (keep x))
    (val : ∀ x ∈ intsTo n, keep x = true → ∀ G, Same H G → ToV te ((wipe σ [j]).set j (some x)) G (f x)) (fin : ∀ D G, H D = none → Same H G → G D = some (.lst (((intsTo n).filter keep).map f)) → Q (.ref D) G) :
    RngLc (gName j) t te [j] σ Q [.int (n : Int)] H :=
  ⟨n, rfl, by omega, by omega, wlc_of walk_ints (fun _ _ => trivial) keep f (by unfold intsTo; rw [List.length_map, List.length_range]; exact hn) test val fin⟩
def EFor (K : PySem.W.Frag) (g : TG) (tb : TS) (D : Ends) (σ : L2.St) (us : List V) (H1 : Hp) : Prop := ∃ (a : Addr) (xs : List V), us = [.ref a] ∧ SqL K H1 a xs ∧ WFor (Ite K a) g tb D σ H1
theorem s_forE (q : tar σ H fun us H1 => EFor K g tbd D σ us H1) : tFor (iEnum K tar) g tbd D σ H := q
theorem l_forE {p : Addr} {xs : List V} (h : SqL K H p xs) (Pv : Nat → L2.St → Hp → Prop) (a : Pv 0 σ H) (stay : ∀ i σ H, i ≤ xs.length → Pv i σ H → SqL K H p xs)
    (turn : ∀ (i : Nat) x T σ H, xs[i]? = some x → Pv i σ H → H T = none → g (.ref T) σ (upd H T (.tup [.int (i : Nat), x])) fun σ2 H2 => tbd { D with nx := Pv (i + 1), ct := Pv (i + 1), bk := D.nx } σ2 H2) (done : ∀ σ H, Pv xs.length σ H → D.nx σ H) :
    EFor K g tbd D σ [.ref p] H :=
  ⟨p, xs, rfl, h, for_it walk_enum Pv a stay (fun i x σ H H' hi q y => by
    obtain ⟨T, u, z, rfl, n, rfl, e1, e2⟩ := y
    cases e1
    exact turn i z T σ H e2 q n) done⟩
end
end G9

namespace G9
open PySem PySem.Spec PyProof.Rows L2
/-! ### data of moderate size: what ==, repr and !r want of it -/
/-- its text has at most n signs, it is at most m deep -/
structure Sml (n m : Nat) (d : PyData) : Prop where
  sh : d.showable = true
  nd : d.hasDict = false
  dp : d.depth ≤ m
  ln : d.shown.length ≤ n
  lay : d.canLay0 = true
theorem Sml.up {n m n' m' : Nat} {d : PyData} (h : Sml n m d) (a : n ≤ n') (b : m ≤ m') : Sml n' m' d := ⟨h.sh, h.nd, Nat.le_trans h.dp b, Nat.le_trans h.ln a, h.lay⟩
theorem Sml.shaped {n m : Nat} {d : PyData} (h : Sml n m d) (a : m ≤ 64) : SeqAt.shaped d = true := by
  unfold SeqAt.shaped
  rw [h.lay, decide_eq_true (Nat.le_trans h.dp a)]
  rfl
theorem sml_non : Sml 4 0 .none := ⟨rfl, rfl, Nat.le_refl _, by decide +kernel, rfl⟩
theorem sml_bl (b : Bool) : Sml 5 0 (.bool b) := ⟨rfl, rfl, Nat.le_refl _, by cases b <;> decide +kernel, rfl⟩
theorem sml_int {i : Int} (h : i.natAbs.log2 < 1920) : Sml 1921 0 (.int i) := ⟨decide_eq_true h, rfl, Nat.le_refl _, by
  have e := int_text_length_le (k := 1920) (by decide) h
  show (Str.ofString (toString i)).length ≤ 1921
  rw [PySem.ofString_length]
  omega, rfl⟩
theorem sml_str {x : Str} {k : Nat} (hl : x.length ≤ k) (hc : ∀ c ∈ x.cps.toList, c < 128) : Sml (10 * k + 2) 0 (.str x) := ⟨rfl, rfl, Nat.le_refl _, by
  have e := StrLaws.reprText_len x fun c h => Nat.lt_trans (hc c h) (by decide)
  show (reprText x).length ≤ _
  omega, by
  show PyData.strOk x = true
  unfold PyData.strOk
  rw [← Array.all_toList, List.all_eq_true]
  intro c h
  exact decide_eq_true (Nat.lt_trans (hc c h) (by decide))⟩
theorem piled_le {ts : List Str} {n : Nat} (h : ∀ t ∈ ts, t.length ≤ n) : piled ts ≤ ts.length * (n + 2) := by
  induction ts with
  | nil => exact Nat.zero_le _
  | cons t ts ih =>
    rw [piled_cons, List.length_cons, Nat.succ_mul]
    have h1 := h t List.mem_cons_self
    have h2 := ih fun u hu => h u (List.mem_cons_of_mem _ hu)
    omega
theorem shownAll_map : ∀ ds : List PyData, PyData.shownAll ds = ds.map PyData.shown
  | [] => rfl
  | d :: ds => by
    rw [PyData.shownAll, shownAll_map ds]
    rfl
theorem all_small {n m : Nat} {ds : List PyData} (h : ∀ d ∈ ds, Sml n m d) : PyData.showableAll ds = true ∧ PyData.hasDictAll ds = false ∧ PyData.depthAll ds ≤ m ∧ PyData.canLayAll0 ds = true ∧ piled (PyData.shownAll ds) ≤ ds.length * (n + 2) := by
  refine ⟨?_, ?_, ?_, ?_, ?_⟩
  · induction ds with
    | nil => rfl
    | cons d ds ih => rw [PyData.showableAll, (h d List.mem_cons_self).sh, ih fun x hx => h x (List.mem_cons_of_mem _ hx)]; rfl
  · induction ds with
    | nil => rfl
    | cons d ds ih => rw [PyData.hasDictAll, (h d List.mem_cons_self).nd, ih fun x hx => h x (List.mem_cons_of_mem _ hx)]; rfl
  · induction ds with
    | nil => exact Nat.zero_le _
    | cons d ds ih =>
      rw [PyData.depthAll]
      have h1 := (h d List.mem_cons_self).dp
      have h2 := ih fun x hx => h x (List.mem_cons_of_mem _ hx)
      omega
  · induction ds with
    | nil => rfl
    | cons d ds ih => rw [PyData.canLayAll0, (h d List.mem_cons_self).lay, ih fun x hx => h x (List.mem_cons_of_mem _ hx)]; rfl
  · rw [shownAll_map]
    refine Nat.le_trans (piled_le (n := n) fun t ht => ?_) (by rw [List.length_map]; exact Nat.le_refl _)
    obtain ⟨d, hd, rfl⟩ := List.mem_map.mp ht
    exact (h d hd).ln
theorem textFrom_le : ∀ (ts : List Str) (k : Nat) (acc : Str), (textFrom k acc ts).length ≤ acc.length + piled ts
  | [], k, acc => by
    show acc.length ≤ _
    omega
  | t :: ts, k, acc => by
    rw [piled_cons]
    have e := textFrom_le ts (k + 1) (acc ++ ((if k > 0 then ", " else "" : String) : Str) ++ t)
    rw [strLen_append, strLen_append] at e
    have e1 : ((if k > 0 then ", " else "" : String) : Str).length ≤ 2 := by split <;> decide +kernel
    show (textFrom (k + 1) (acc ++ ((if k > 0 then ", " else "" : String) : Str) ++ t) ts).length ≤ _
    omega
theorem sml_list {n m : Nat} {ds : List PyData} (h : ∀ d ∈ ds, Sml n m d) : Sml (2 + ds.length * (n + 2)) (m + 1) (.list ds) := by
  obtain ⟨a, b, c, d, e⟩ := all_small h
  refine ⟨a, b, Nat.succ_le_succ c, ?_, d⟩
  show (listText (PyData.shownAll ds)).length ≤ _
  unfold listText
  rw [strLen_append]
  have := textFrom_le (PyData.shownAll ds) 0 "["
  have e1 : ((("[" : String) : Str)).length = 1 := rfl
  have e2 : ((("]" : String) : Str)).length = 1 := rfl
  omega
theorem sml_tup {n m : Nat} {ds : List PyData} (h : ∀ d ∈ ds, Sml n m d) : Sml (2 + ds.length * (n + 2)) (m + 1) (.tuple ds) := by
  obtain ⟨a, b, c, d, e⟩ := all_small h
  refine ⟨a, b, Nat.succ_le_succ c, ?_, d⟩
  show (tupleText (PyData.shownAll ds)).length ≤ _
  have := fmt_text (PyData.shownAll ds)
  omega
theorem sml_shw {K : PySem.W.Frag} {H : Hp} {v : V} {d : PyData} {n m : Nat} (h : Dp K H v d) (s : Sml n m d) (hm : m ≤ 60) (hn : n + 1000 ≤ sizeLine) : Shw K H v := by
  cases h with
  | non => exact Or.inr (Or.inr (Or.inl rfl))
  | bl b => exact Or.inr (Or.inr (Or.inr (Or.inl ⟨b, rfl⟩)))
  | int i => exact Or.inl ⟨i, rfl, of_decide_eq_true s.sh⟩
  | str x => exact Or.inr (Or.inl ⟨x, rfl, by have := s.ln; show (PyData.shown (.str x)).length + 1000 ≤ _; omega⟩)
  | lst a b => exact Or.inr (Or.inr (Or.inr (Or.inr (Or.inl ⟨_, _, rfl, .lst a b, s.sh, s.nd, Nat.le_trans s.dp hm, by have := s.ln; omega⟩))))
  | tup a b => exact Or.inr (Or.inr (Or.inr (Or.inr (Or.inl ⟨_, _, rfl, .tup a b, s.sh, s.nd, Nat.le_trans s.dp hm, by have := s.ln; omega⟩))))
/-! ### exceptions made, by what is told of them -/
def RMk0 (C : Addr) (H : Hp) (Q : VK) : Prop := ∀ a, H a = none → Q (.ref a) (upd H a (exo a C none))
def tMk0 (C : Addr) (te : TE) : TE := fun σ H Q => te σ H fun _ H1 => RMk0 C H1 Q
def RMkI (K : PySem.W.Frag) (C : Addr) (f : Str) (v : V) (H : Hp) (Q : VK) : Prop := ∀ a, H a = none → Shw K (upd H a (exo a C none)) v ∧ ∀ dx, H dx = none → dx ≠ a → Q (.ref a) (upd (upd H dx (exd dx [(f, v)])) a (exo a C (some dx)))
def tMkI (K : PySem.W.Frag) (C : Addr) (f : Str) (te : TE) : TE := fun σ H Q => te σ H fun v H1 => RMkI K C f v H1 Q
section
variable {X : Cx} {B newId initId : String} {tl : List Value} {C fI : Addr} {k : Nat} {fd : FuncData} {me pn f x : Str} {e : Expr} {te : TE} {p pos : Pos}
theorem pe_mkI (T : OexB B newId initId tl X.K C) (iC : PySem.W.findIn X.K (.ref C) "__init__" = some (some (.ref fI))) (tI : PySem.W.typeIn X.K (.ref fI) = some (.type "function"))
    (F : FnG X.prog X.w X.K X.mg X.base CX0 k fI fd [me, pn] (spInit C f X.K)) (room : RoomG (k + 1) X.A) (hb : Binds X.K fd [me, pn] []) (hg : Gl X x) (hm : X.mg x = some (.ref C)) (he : PE X e te)
    (hs : starEach [e] X.env = (false, eval e X.env) :: starEach [] X.env := by rfl) (hdb : (x == ("__debug__" : Str)) = false := by decide) : PE X (.Call (.Name x p) [e] [] pos) (tMkI X.K C f te) := pe_makeI T iC tI F room hb hg hm he hs hdb
theorem pe_mk0 {bmB : List Value} {iI : String} (F : ExcBaseFacts B newId iI bmB) (q : PySem.W.excIn X.K C bmB newId = true) (gC : X.mg x = some (.ref C)) (kC : PySem.W.keepIn X.K (.ref C) = true) (hg : Gl X x) (he : PE X e te)
    (hs : starEach [e] X.env = (false, eval e X.env) :: starEach [] X.env := by rfl) (hdb : (x == ("__debug__" : Str)) = false := by decide) : PE X (.Call (.Name x p) [e] [] pos) (tMk0 C te) := pe_make0 F q gC kC hg he hs hdb
end
section
variable {K : PySem.W.Frag} {H : Hp} {C : Addr} {f : Str} {v : V} {Q : VK} {σ : L2.St} {te : TE}
theorem s_mk0 (q : te σ H fun _ H1 => RMk0 C H1 Q) : tMk0 C te σ H Q := q
theorem s_mkI (q : te σ H fun v H1 => RMkI K C f v H1 Q) : tMkI K C f te σ H Q := q
theorem l_mk0 (k : ∀ a J, H a = none → Same H J → XAt J a C none [] → Q (.ref a) J) : RMk0 C H Q :=
  fun a n => k a _ n (Same.upd0 n) (xat_exo0 upd_same)
theorem l_mkI (sh : Shw K H v) (k : ∀ a d J, H a = none → Same H J → XAt J a C (some d) [(f, v)] → Q (.ref a) J) : RMkI K C f v H Q := fun a n =>
  ⟨shw_u sh a _ n, fun dx nd ne => k a dx _ n ((Same.upd0 nd).trans (Same.upd0 (by rw [upd_ne (Ne.symm ne)]; exact n))) (xat_exo upd_same (by rw [upd_ne ne, upd_same]))⟩
end
end G9

/-! Texts: isascii, islower; small letters told by them. -/
namespace G9
open PySem PySem.Spec PyProof.Rows L2
section
variable {X : Cx}
theorem mt_isascii : MtR X "str.isascii" (fun x xs H Q => ∃ a, x = .str a ∧ xs = [] ∧ True ∧ Q (.bl (Txt.isascii a)) H) :=
  mt0 (C := fun _ => True) (g := fun a => .bl (Txt.isascii a)) fun _ _ s _ _ h => PySem.SC.isascii (h _ s.toks rfl)
theorem mt_islower : MtR X "str.islower" (fun x xs H Q => ∃ a, x = .str a ∧ xs = [] ∧ True ∧ Q (.bl (Txt.islower a)) H) :=
  mt0 (C := fun _ => True) (g := fun a => .bl (Txt.islower a)) fun _ _ s _ _ h => PySem.SC.islower (h _ s.toks rfl)
def rTold (f : Str → Bool) : V → List V → Hp → VK → Prop := fun x xs H Q => ∃ a, x = .str a ∧ xs = [] ∧ True ∧ Q (.bl (f a)) H
def tToldM (f : Str → Bool) (to : TE) : TE := tM0 (rTold f) to
section
variable {σ : L2.St} {H : Hp} {to : TE} {Q : VK} {f : Str → Bool}
theorem s_told (q : to σ H fun x H1 => ∃ a, x = .str a ∧ Q (.bl (f a)) H1) (mono : ∀ (R R' : VK), (∀ v G, R v G → R' v G) → to σ H R → to σ H R') : tM0 (rTold f) to σ H Q := by
  refine mono _ _ (fun v G h => ?_) q
  obtain ⟨a, rfl, q⟩ := h
  exact ⟨⟨a, rfl⟩, a, rfl, rfl, trivial, q⟩
theorem l_told {i : Nat} {a : Str} (h : σ[i]? = some (some (.str a))) (q : Q (.bl (f a)) H) : tM0 (rTold f) (tVar i) σ H Q := ⟨_, h, ⟨a, rfl⟩, a, rfl, rfl, trivial, q⟩
end
end
theorem _root_.List.all_congr_of {α : Type} {f g : α → Bool} : ∀ {l : List α}, (∀ x ∈ l, f x = g x) → l.all f = l.all g
  | [], _ => rfl
  | x :: l, h => by rw [List.all_cons, List.all_cons, h x List.mem_cons_self, List.all_congr_of fun y hy => h y (List.mem_cons_of_mem _ hy)]
theorem _root_.List.any_congr_of {α : Type} {f g : α → Bool} : ∀ {l : List α}, (∀ x ∈ l, f x = g x) → l.any f = l.any g
  | [], _ => rfl
  | x :: l, h => by rw [List.any_cons, List.any_cons, h x List.mem_cons_self, List.any_congr_of fun y hy => h y (List.mem_cons_of_mem _ hy)]
theorem ascii_alpha : ∀ c : Fin 128, Unicode.isAlpha c.val = (decide (65 ≤ c.val ∧ c.val ≤ 90) || decide (97 ≤ c.val ∧ c.val ≤ 122)) := by decide +kernel
theorem ascii_lower : ∀ c : Fin 128, Unicode.isLower c.val = decide (97 ≤ c.val ∧ c.val ≤ 122) := by decide +kernel
theorem ascii_upper : ∀ c : Fin 128, (Unicode.isUpper c.val || Unicode.isTitle c.val) = decide (65 ≤ c.val ∧ c.val ≤ 90) := by decide +kernel
theorem isascii_of {s : Str} (h : ∀ c ∈ s.cps.toList, c < 128) : Txt.isascii s = true := by
  unfold Txt.isascii
  rw [← Array.all_toList, List.all_eq_true]
  intro c hc
  exact decide_eq_true (h c hc)
def smallC (c : Nat) : Bool := decide (97 ≤ c) && decide (c ≤ 122)
theorem small_told {s : Str} (h : ∀ c ∈ s.cps.toList, c < 128) (n : 1 ≤ s.length) : (Txt.isalpha s && Txt.islower s) = s.cps.toList.all smallC := by
  have hl : s.cps.toList ≠ [] := by
    intro e
    have : s.cps.toList.length = 0 := by rw [e]; rfl
    rw [Array.length_toList] at this
    have n' : 1 ≤ s.cps.size := n
    omega
  have ea : Txt.isalpha s = s.cps.toList.all fun c => decide (65 ≤ c ∧ c ≤ 90) || decide (97 ≤ c ∧ c ≤ 122) := by
    unfold Txt.isalpha
    rw [decide_eq_true (show s.length > 0 from n), Bool.true_and, ← Array.all_toList]
    exact List.all_congr_of fun c hc => ascii_alpha ⟨c, h c hc⟩
  have el : Txt.islower s = (s.cps.toList.any (fun c => decide (97 ≤ c ∧ c ≤ 122)) && !s.cps.toList.any fun c => decide (65 ≤ c ∧ c ≤ 90)) := by
    unfold Txt.islower
    rw [← Array.any_toList, ← Array.any_toList]
    rw [List.any_congr_of (f := Unicode.isLower) (g := fun c => decide (97 ≤ c ∧ c ≤ 122)) fun c hc => ascii_lower ⟨c, h c hc⟩, List.any_congr_of (f := fun c => Unicode.isUpper c || Unicode.isTitle c) (g := fun c => decide (65 ≤ c ∧ c ≤ 90)) fun c hc => ascii_upper ⟨c, h c hc⟩]
  rw [ea, el]
  generalize s.cps.toList = l at hl
  rw [Bool.eq_iff_iff]
  simp only [Bool.and_eq_true, List.all_eq_true, Bool.or_eq_true, decide_eq_true_eq, List.any_eq_true, Bool.not_eq_true', List.any_eq_false, smallC]
  constructor
  · rintro ⟨a, _, u⟩ c hc
    rcases a c hc with q | q
    · exact absurd q (u c hc)
    · exact q
  · intro a
    refine ⟨fun c hc => Or.inr (a c hc), ?_, fun c hc q => ?_⟩
    · cases l with
      | nil => exact absurd rfl hl
      | cons c r => exact ⟨c, List.mem_cons_self, a c List.mem_cons_self⟩
    · have := a c hc
      omega
end G9

/-! Own classes: methods, properties, operators that call defs of the class; all in surroundings without a repr under way. -/
namespace G9
open PySem PySem.Spec PyProof.Rows L2
theorem rv_ref (a : Addr) : RelV (.ref a) (.ref a) := rfl
theorem RoomG.in1 {k : Nat} {A : Around} (h : RoomG (k + 1) A) : RoomG k A.in1 := ⟨h.r.in1, h.g⟩
section
variable {X : Cx} {CX : CXT} {k : Nat} {f C : Addr} {fd : FuncData} {ps : List Str} {sp : Sp} {dvs : List V} {ds : List Value} {E : XK} {m : Str} {pos apos : Pos} {e o : Expr} {es : List Expr} {ta tb : TE} {t : TA}
/-- the def f is called somewhere below the running body -/
theorem calleeA {A : Around} {pins : List (Addr × Obj)} {σ : L2.St} {H : Hp} {s : Shared} {Q : VK} {us : List Value} {vs : List V} (fr : A.frames = X.A.frames) (F : FnG X.prog X.w X.K X.mg X.base CX k f fd ps sp) (room : RoomG k A)
    (hb : Binds X.K fd ps ds) (hd : Vals dvs ds) (hx : Passes CX X E) (I : Inv X pins σ H s) (r : Vals vs us) (want : sp (vs ++ dvs) H Q E) : wpAny (model X.prog X.w) A (call (.ref f) us) (EP X pins σ Q) X.xe s := by
  have rr : Vals (vs ++ dvs) (us ++ ds) := r.append hd
  have len : (us ++ ds).length = ps.length := rr.length.symm.trans (F.count _ _ _ _ want)
  have e0 := I.env0
  have e1 : Env0 X.prog X.w X.K X.mg X.base A X.stack s H := ⟨by rw [fr]; exact e0.frames, e0.mod, e0.bs, e0.bsz, e0.funs, e0.frf, e0.hok, e0.bare⟩
  refine wpAny_call (codeAny_mono (F.goes A X.stack s H ⟨us, []⟩ (us ++ ds) (vs ++ dvs) Q E room e1 (hb s us I.kIn len) rr want) fun res z hz => ?_)
  match res, hz with
  | .error er, hz => exact hx pins σ H s er z I hz
  | .ok (.ret u), hz => exact I.after hz

/-- a def of the class under a name with two underscores at each end -/
structure Dun (K : PySem.W.Frag) (C : Addr) (n : Str) (f : Addr) : Prop where
  here : PySem.W.findIn K (.ref C) n = some (some (.ref f))
  isf : PySem.W.isFn K (.ref f) = true
/-- the object x, an instance of C, and what the def promises of it and further values -/
def OwnCall (C : Addr) (sp : Sp) (E : XK) (x : V) (args : List V) (H : Hp) (Q : VK) : Prop := ∃ (a dx : Addr) (fs : List (Str × V)), x = .ref a ∧ H a = some (.ins C dx fs) ∧ sp (.ref a :: args) H Q E
theorem OwnCall.mk {x : V} {args : List V} {H : Hp} {Q : VK} {a dx : Addr} {fs : List (Str × V)} (ea : H a = some (.ins C dx fs)) (q : sp (.ref a :: args) H Q E) : OwnCall C sp E (.ref a) args H Q := ⟨a, dx, fs, rfl, ea, q⟩
def YesNo (Q : VK) : VK := fun v H => ∃ b, v = .bl b ∧ Q (.bl b) H
def rOwnIn (C : Addr) (sp : Sp) (E : XK) : R2 := fun y x H Q => OwnCall C sp E x [y] H (YesNo Q)
def rOwnNin (C : Addr) (sp : Sp) (E : XK) : R2 := fun y x H Q => OwnCall C sp E x [y] H fun v G => ∃ b, v = .bl b ∧ Q (.bl (!b)) G
theorem op_ownIn (D : Dun X.K C "__contains__" f) (F : FnG X.prog X.w X.K X.mg X.base CX k f fd ps sp) (room : RoomG k X.A) (hb : Binds X.K fd ps []) (hx : Passes CX X E) : OpR X (compareOp .In) (rOwnIn C sp E) := by
  intro pins s σ H y x u v Q I ry rx h
  obtain ⟨a, dx, fs, rfl, ea, q⟩ := h
  obtain rfl : v = Value.ref a := rx
  obtain ⟨mA, O, _⟩ := ins_get I.hok ea
  obtain ⟨od, J, _⟩ := O.look
  obtain ⟨mF, hF⟩ := I.fr
  refine PySem.W.in_K hF I.ok.mod.kin J D.here D.isf (thn (calleeA rfl F room hb .nil hx I (.cons (rv_ref a) (.cons ry .nil)) q) fun r z hz => ?_)
  obtain ⟨w1, H1, I1, rw1, b, rfl, q1⟩ := hz
  obtain rfl : r = Value.bool b := rw1
  exact wpAny_truthy_bool ⟨.bl b, H1, I1, rfl, q1⟩
theorem op_ownNin (D : Dun X.K C "__contains__" f) (F : FnG X.prog X.w X.K X.mg X.base CX k f fd ps sp) (room : RoomG k X.A) (hb : Binds X.K fd ps []) (hx : Passes CX X E) : OpR X (compareOp .NotIn) (rOwnNin C sp E) := by
  intro pins s σ H y x u v Q I ry rx h
  obtain ⟨a, dx, fs, rfl, ea, q⟩ := h
  obtain rfl : v = Value.ref a := rx
  obtain ⟨mA, O, _⟩ := ins_get I.hok ea
  obtain ⟨od, J, _⟩ := O.look
  obtain ⟨mF, hF⟩ := I.fr
  refine PySem.W.notIn_K hF I.ok.mod.kin J D.here D.isf (thn (calleeA rfl F room hb .nil hx I (.cons (rv_ref a) (.cons ry .nil)) q) fun r z hz => ?_)
  obtain ⟨w1, H1, I1, rw1, b, rfl, q1⟩ := hz
  obtain rfl : r = Value.bool b := rw1
  exact wpAny_truthy_bool ⟨.bl (!b), H1, I1, rfl, q1⟩
/-- x[i] -/
def rOwnAt (C : Addr) (sp : Sp) (E : XK) : R2 := fun x i H Q => OwnCall C sp E x [i] H Q
theorem pe_ownAt {a b : Expr} (D : Dun X.K C "__getitem__" f) (hfi : PySem.W.fnIn X.K f = true) (F : FnG X.prog X.w X.K X.mg X.base CX k f fd ps sp) (room : RoomG (k + 1) X.A) (hb : Binds X.K fd ps []) (hx : Passes CX X E) (ha : PE X a ta) (hi : PE X b tb)
    (hsl : ∀ u v : Value, subscripted b true u v = runValue (.builtin "lifetime.subscript" ⟨[u, v], []⟩) := by intro _ _; rfl) : PE X (.Subscript a b pos) (tOp (rOwnAt C sp E) ta tb) := by
  constructor
  intro pins s σ H Q I h
  refine Subscript_ (binT ha hi I h fun u v z x y G J rx ry q => ?_)
  obtain ⟨c, dx, fs, rfl, ea, q⟩ := q
  obtain rfl : u = Value.ref c := rx
  obtain ⟨mA, O, _⟩ := ins_get J.hok ea
  obtain ⟨od, JJ, _⟩ := O.look
  obtain ⟨mF, hF⟩ := J.fr
  exact PySem.W.sub_K hF J.ok.mod.kin JJ D.here hfi D.isf (calleeA (A := X.A.in1) rfl F room.in1 hb .nil hx J (.cons (rv_ref c) (.cons ry .nil)) q) (hsl _ _)
theorem not_ni {v : V} {u : Value} {Q : Value → Shared → Prop} {z : Shared} (r : RelV v u) (q : Q u z) : PySem.W.CmpBack Q u z := by
  cases v with
  | non =>
    obtain rfl : u = Value.none := r
    exact q
  | bl b =>
    obtain rfl : u = Value.bool b := r
    exact q
  | int i =>
    obtain ⟨_, rfl⟩ := r
    exact q
  | str i =>
    obtain ⟨_, rfl⟩ := r
    exact q
  | byt i =>
    obtain ⟨_, rfl⟩ := r
    exact q
  | flt i =>
    obtain ⟨_, rfl⟩ := r
    exact q
  | ref i =>
    obtain rfl : u = Value.ref i := r
    exact q
  | ty i =>
    obtain rfl : u = Value.type i := r
    exact q
/-- the type of a value, looked up -/
theorem looks_ty {pins : List (Addr × Obj)} {σ : L2.St} {H : Hp} {s : Shared} {x : V} {u t : Value} (I : Inv X pins σ H s) (rx : RelV x u) (ty : TyX X.K H x t) : PySem.W.Looks (model X.prog X.w) s.heap (typeOf u) t := by
  have obj : ∀ {a : Addr} {ob : Obj} {c : Value}, s.heap.get? a = some ob → ob.cls = c → PySem.W.Looks (model X.prog X.w) s.heap (typeOf (.ref a)) c := by
    intro a ob c e1 e2 A E Q z kz q
    exact wpAny_typeOf_ref (kz _ _ e1) (by rw [e2]; exact q)
  cases ty with
  | base b =>
    cases b with
    | non =>
      obtain rfl : u = Value.none := rx
      exact .of_pure rfl
    | bl y =>
      obtain rfl : u = Value.bool y := rx
      exact .of_pure rfl
    | int i =>
      obtain ⟨_, rfl⟩ := rx
      exact .of_pure rfl
    | str i =>
      obtain ⟨_, rfl⟩ := rx
      exact .of_pure rfl
    | flt i =>
      obtain ⟨_, rfl⟩ := rx
      exact .of_pure rfl
    | @lst a xs ea =>
      obtain rfl : u = Value.ref a := rx
      obtain ⟨_, _, n, _, h1⟩ := (show ObjOk X.prog X.w H s.heap a (.lst xs) from I.hok a _ ea)
      exact obj h1 rfl
    | @frz a ob xs ea =>
      obtain rfl : u = Value.ref a := rx
      obtain ⟨_, _, _, n, _, h1⟩ := (show ObjOk X.prog X.w H s.heap a (.frz ob (.lst xs)) from I.hok a _ ea)
      exact obj h1 rfl
    | @tup a xs ea =>
      obtain rfl : u = Value.ref a := rx
      obtain ⟨_, _, _, oo, h1, h2, _⟩ := (show ObjOk X.prog X.w H s.heap a (.tup xs) from I.hok a _ ea)
      exact obj h1 h2
    | @dK a kvs ea =>
      obtain rfl : u = Value.ref a := rx
      obtain ⟨_, _, vs, _, oo, es, ep, h1, h2, _⟩ := (show ObjOk X.prog X.w H s.heap a (.dK kvs) from I.hok a _ ea)
      exact obj h1 h2.1
    | @dT a kvs ea =>
      obtain rfl : u = Value.ref a := rx
      obtain ⟨_, _, xs, _, oo, es, ep, h1, h2, _⟩ := (show ObjOk X.prog X.w H s.heap a (.dT kvs) from I.hok a _ ea)
      exact obj h1 h2.1
    | @ins a C dx fs ea cl ha hn htk hm =>
      obtain rfl : u = Value.ref a := rx
      obtain ⟨mA, O, _⟩ := ins_get I.hok ea
      obtain ⟨od, J, _⟩ := O.look
      exact J.type
  | byt y =>
    obtain ⟨_, rfl⟩ := rx
    exact .of_pure rfl
  | @set a S n ea =>
    obtain rfl : u = Value.ref a := rx
    obtain ⟨oo, _, _, _, e1, ex, _⟩ := I.hok a _ ea
    exact obj e1 ex.1
  | @kList a oo e1 c =>
    obtain rfl : u = Value.ref a := rx
    exact obj (I.kIn a oo e1) c
  | @kTuple a oo e1 c =>
    obtain rfl : u = Value.ref a := rx
    exact obj (I.kIn a oo e1) c
  | @kDict a oo e1 c =>
    obtain rfl : u = Value.ref a := rx
    exact obj (I.kIn a oo e1) c
  | @fTuple a ob xs ea =>
    obtain rfl : u = Value.ref a := rx
    obtain ⟨_, _, _, _, oo, h1, h2, _⟩ := (show ObjOk X.prog X.w H s.heap a (.frz ob (.tup xs)) from I.hok a _ ea)
    exact obj h1 h2
  | @fDict a ob kvs ea =>
    obtain rfl : u = Value.ref a := rx
    obtain ⟨_, _, _, vs, _, oo, es, ep, h1, h2, _⟩ := (show ObjOk X.prog X.w H s.heap a (.frz ob (.dK kvs)) from I.hok a _ ea)
    exact obj h1 h2.1
/-- x == y, x of the class; y of any kind that no class of its own stands above -/
def rOwnEq (K : PySem.W.Frag) (C : Addr) (sp : Sp) (E : XK) : R2 := fun x y H Q => ∃ t, TyX K H y t ∧ PySem.W.notFirst K C t = true ∧ OwnCall C sp E x [y] H Q
theorem op_ownEq (D : Dun X.K C "__eq__" f) (F : FnG X.prog X.w X.K X.mg X.base CX k f fd ps sp) (room : RoomG k X.A) (hb : Binds X.K fd ps []) (hx : Passes CX X E) : OpR X (compareOp .Eq) (rOwnEq X.K C sp E) := by
  intro pins s σ H x y v u Q I rx ry h
  obtain ⟨t, ty, nf, a, dx, fs, rfl, ea, q⟩ := h
  obtain rfl : v = Value.ref a := rx
  obtain ⟨mA, O, _⟩ := ins_get I.hok ea
  obtain ⟨od, J, _⟩ := O.look
  obtain ⟨mF, hF⟩ := I.fr
  refine PySem.W.cmp_K (op := .Eq) (Nat.lt_of_le_of_lt (Nat.le_add_right _ _) room.r.units) hF I.ok.mod.kin J (looks_ty I ry ty) nf D.here D.isf (thn (calleeA rfl F room hb .nil hx I (.cons (rv_ref a) (.cons ry .nil)) q) fun r z hz => ?_)
  obtain ⟨w1, H1, I1, rw1, q1⟩ := hz
  exact not_ni rw1 ⟨w1, H1, I1, rw1, q1⟩
/-- len(x) -/
def rOwnLen (C : Addr) (sp : Sp) (E : XK) : List V → Hp → VK → Prop := fun xs H Q => ∃ x, xs = [x] ∧ OwnCall C sp E x [] H fun v G => ∃ n : Nat, v = .int n ∧ n < 2 ^ 62 ∧ Q (.int n) G
theorem call_ownLen (D : Dun X.K C "__len__" f) (F : FnG X.prog X.w X.K X.mg X.base CX k f fd ps sp) (room : RoomG (k + 1) X.A) (hb : Binds X.K fd ps []) (hx : Passes CX X E) : CallR X (.builtin "len") (rOwnLen C sp E) := by
  intro pins s σ H xs us Q I rs h
  obtain ⟨x, rfl, a, dx, fs, rfl, ea, q⟩ := h
  obtain ⟨u, rfl, r1⟩ := vals1 rs
  obtain rfl : u = Value.ref a := r1
  obtain ⟨mA, O, _⟩ := ins_get I.hok ea
  obtain ⟨od, J, _⟩ := O.look
  obtain ⟨mF, hF⟩ := I.fr
  refine PySem.W.len_K hF I.ok.mod.kin J D.here D.isf (thn (calleeA (A := X.A.in1) rfl F room.in1 hb .nil hx I (.cons (rv_ref a) .nil) q) fun r z hz => ?_)
  obtain ⟨w1, H1, I1, rw1, n, rfl, hn, q1⟩ := hz
  obtain ⟨tk, rfl⟩ := rw1
  exact ⟨⟨by omega, by omega⟩, .int n, H1, I1.tok _, ⟨_, rfl⟩, q1⟩
/-- str(x) -/
def rOwnStr (C : Addr) (sp : Sp) (E : XK) : List V → Hp → VK → Prop := fun xs H Q => ∃ x, xs = [x] ∧ OwnCall C sp E x [] H fun v G => ∃ y, v = .str y ∧ Q (.str y) G
theorem call_ownStr (D : Dun X.K C "__str__" f) (F : FnG X.prog X.w X.K X.mg X.base CX k f fd ps sp) (room : RoomG (k + 2) X.A) (hb : Binds X.K fd ps []) (hx : Passes CX X E) : CallR X (.type "str") (rOwnStr C sp E) := by
  intro pins s σ H xs us Q I rs h
  obtain ⟨x, rfl, a, dx, fs, rfl, ea, q⟩ := h
  obtain ⟨u, rfl, r1⟩ := vals1 rs
  obtain rfl : u = Value.ref a := r1
  obtain ⟨mA, O, _⟩ := ins_get I.hok ea
  obtain ⟨od, J, _⟩ := O.look
  refine PySem.W.kso_call (Nat.lt_of_le_of_lt (Nat.le_add_right _ _) room.in1.in1.r.units) I.kIn J D.here D.isf (thn (calleeA (A := X.A.in1.in1) rfl F room.in1.in1 hb .nil hx I (.cons (rv_ref a) .nil) q) fun r z hz => ?_)
  obtain ⟨w1, H1, I1, rw1, y, rfl, q1⟩ := hz
  obtain ⟨tk, rfl⟩ := rw1
  exact ⟨.str y, H1, I1, ⟨_, rfl⟩, q1⟩
/-- x op y, both of the class -/
def rOwnBin (C : Addr) (sp : Sp) (E : XK) : R2 := fun x y H Q => ∃ (b dy : Addr) (gs : List (Str × V)), y = .ref b ∧ H b = some (.ins C dy gs) ∧ OwnCall C sp E x [y] H Q
theorem op_ownBin {op : Operator} (hc : PySem.W.selfFirst X.K C = true) (D : Dun X.K C (PySem.dunder op.info.2) f) (F : FnG X.prog X.w X.K X.mg X.base CX k f fd ps sp) (room : RoomG k X.A) (hb : Binds X.K fd ps []) (hx : Passes CX X E) : OpR X (binaryOp op) (rOwnBin C sp E) := by
  intro pins s σ H x y v u Q I rx ry h
  obtain ⟨b, dy, gs, rfl, eb, a, dx, fs, rfl, ea, q⟩ := h
  obtain rfl : v = Value.ref a := rx
  obtain rfl : u = Value.ref b := ry
  obtain ⟨mA, O, _⟩ := ins_get I.hok ea
  obtain ⟨od, J, _⟩ := O.look
  obtain ⟨mB, O2, _⟩ := ins_get I.hok eb
  obtain ⟨od2, J2, _⟩ := O2.look
  obtain ⟨mF, hF⟩ := I.fr
  refine PySem.W.binop_K hF I.ok.mod.kin J J2.type hc D.here D.isf (thn (calleeA rfl F room hb .nil hx I (.cons (rv_ref a) (.cons (rv_ref b) .nil)) q) fun r z hz => ?_)
  obtain ⟨w1, H1, I1, rw1, q1⟩ := hz
  exact not_ni rw1 ⟨w1, H1, I1, rw1, q1⟩
/-- x.m(e, ..) -/
def tOwnM (C : Addr) (m : Str) (sp : Sp) (E : XK) (ta : TE) (t : TA) : TE := fun σ H Q => ta σ H fun x H1 => ∃ (a dx : Addr) (fs : List (Str × V)), x = .ref a ∧ H1 a = some (.ins C dx fs) ∧ fs.lookup m = none ∧ t σ H1 fun vs H2 => sp (.ref a :: vs) H2 Q E
theorem pe_methG {pl : Sem Bool} (he : PE X o ta) (c : Cls X.K C) (M : Meth X.K C m f) (F : FnG X.prog X.w X.K X.mg X.base CX k f fd ps sp) (room : RoomG k X.A) (hb : Binds X.K fd ps []) (hx : Passes CX X E) (ha : PA X (e :: es) t)
    (hst : starEach (e :: es) X.env = (false, eval e X.env) :: starEach es X.env := by rfl) (hpl : (backTo pos (starEach es X.env)).any (·.1) = false := by rfl)
    (ht : eval (.Call (.Attribute o m apos) (e :: es) [] pos) X.env = (do
      let ov ← eval o X.env
      standAt apos.atName
      let (g, first) ← holding [ov] (getMethod ov m pl)
      callWith pos g first (backTo pos (starEach (e :: es) X.env)) (backToKw pos (keywordEach [] X.env))) := by rfl) : PE X (.Call (.Attribute o m apos) (e :: es) [] pos) (tOwnM C m sp E ta t) := by
  constructor
  intro pins s σ H Q I h
  refine PySem.W.methodCall_KW (pl := pl) (thn (he.run pins s σ H _ I h) fun u z ⟨x, G, J, rx, a, dx, fs, ex, ea, l, q⟩ => ?_) ht
  subst ex
  obtain rfl : u = Value.ref a := rx
  refine getmeth_ok J ea c M l (PySem.W.callWith_K (first := [.ref a]) (h₀ := X.base) J.ok.mod.kin M.kp (thn (ha.run pos pins z σ G _ J q) fun us z2 ⟨vs, G2, J2, r2, q2⟩ => ⟨J2.kIn, ?_⟩) hst hpl)
  have q3 : sp ((.ref a :: vs) ++ []) G2 Q E := by rw [List.append_nil]; exact q2
  exact calleeA (us := .ref a :: us) (vs := .ref a :: vs) rfl F room hb .nil hx J2 (.cons rfl r2) q3
theorem pe_methG0 {pl : Sem Bool} (he : PE X o ta) (c : Cls X.K C) (M : Meth X.K C m f) (F : FnG X.prog X.w X.K X.mg X.base CX k f fd ps sp) (room : RoomG k X.A) (hb : Binds X.K fd ps []) (hx : Passes CX X E)
    (ht : eval (.Call (.Attribute o m apos) [] [] pos) X.env = (do
      let ov ← eval o X.env
      standAt apos.atName
      let (g, first) ← holding [ov] (getMethod ov m pl)
      callWith pos g first (backTo pos (starEach [] X.env)) (backToKw pos (keywordEach [] X.env))) := by rfl) : PE X (.Call (.Attribute o m apos) [] [] pos) (tOwnM C m sp E ta tNil) := by
  constructor
  intro pins s σ H Q I h
  refine PySem.W.methodCall_KW (pl := pl) (thn (he.run pins s σ H _ I h) fun u z ⟨x, G, J, rx, a, dx, fs, ex, ea, l, q⟩ => ?_) ht
  subst ex
  obtain rfl : u = Value.ref a := rx
  refine getmeth_ok J ea c M l (PySem.W.callWith_K0 (first := [.ref a]) J.kIn M.kp ?_)
  exact calleeA (us := [.ref a]) (vs := [.ref a]) rfl F room hb .nil hx J (.cons rfl .nil) q
/-- x.n, n a property -/
def tOwnP (C : Addr) (sp : Sp) (E : XK) (ta : TE) : TE := fun σ H Q => ta σ H fun x H1 => OwnCall C sp E x [] H1 Q
theorem pe_propG {p : Addr} {n : Str} (he : PE X e ta) (c : Cls X.K C) (P : PropOf X.K C n p f) (F : FnG X.prog X.w X.K X.mg X.base CX k f fd ps sp) (room : RoomG (k + 1) X.A) (hb : Binds X.K fd ps []) (hx : Passes CX X.nox E)
    (hab : attributeBase e n X.env (eval e X.env) = eval e X.env := by rfl) : PE X (.Attribute e n pos) (tOwnP C sp E ta) := by
  constructor
  intro pins s σ H Q I h
  refine attr_of hab (thn (he.run pins s σ H _ I h) fun u z ⟨x, G, J, rx, a, dx, fs, ex, ea, q⟩ => ?_)
  subst ex
  obtain rfl : u = Value.ref a := rx
  obtain ⟨mA, O, _, _, _, _⟩ := ins_get J.hok ea
  obtain ⟨od, JJ, _⟩ := O.look
  obtain ⟨rest, hrec⟩ := P.rec_
  have J1 := J.tok (z.toks + 1)
  have hc : (PySem.W.clsIn X.K C).isSome = true := by
    obtain ⟨cd, hcd, _⟩ := PySem.W.any_some c.hd
    rw [hcd]
    rfl
  refine PySem.W.get_bind J.kIn JJ (PySem.W.plainGet_of (c.get n)).1 (PySem.W.findObj_data hc P.at_ P.get P.tak) (PySem.W.plainGet_of (c.get n)).2 (wpAny_call (PySem.W.prop_get (s := { z with toks := z.toks + 1 }) J.kIn hrec ?_))
  have len : [Value.ref a].length = ps.length := (F.count _ _ _ _ q)
  have bd := hb { z with toks := z.toks + 1 } [.ref a] J1.kIn (by simpa using len)
  refine codeAny_mono (F.goes X.A.in1 X.stack { z with toks := z.toks + 1 } G ⟨[.ref a], []⟩ [.ref a] [.ref a] Q E room.in1 J1.env0.in1 (by simpa using bd) (.cons rfl .nil) q) fun r z' hz => ?_
  match r, hz with
  | .error er, hz => exact False.elim (hx pins σ G { z with toks := z.toks + 1 } er z' (J1.wish _) hz)
  | .ok (.ret w1), hz =>
    obtain ⟨v, G2, J2, rv, q2⟩ := J1.after hz
    show wpAny _ _ (handedOut w1) _ _ _
    rw [PySem.W.handedOut_of (handed_of rv)]
    exact wpAny_pure ⟨v, G2, J2, rv, q2⟩
end
end G9

/-! Calls with keywords that a def takes as a dict of its own. -/
namespace G9
open PySem PySem.Spec PyProof.Rows L2
theorem push_then (h : Heap) (o : Obj) (f : Obj → Obj) : (h.push o).update h.objs.size f = h.push (f o) := by
  obtain ⟨objs, life⟩ := h
  simp only [Heap.update, Heap.push, Heap.mk.injEq, and_true]
  apply Array.ext_getElem?
  intro i
  simp only [Array.getElem?_modify, Array.getElem?_push]
  by_cases h1 : objs.size = i
  · subst h1
    simp
  · have h2 : ¬ i = objs.size := fun e => h1 e.symm
    simp [h1, h2]
abbrev dOf (es : List DictEntry) (n : Nat) : Obj := PySem.W.dictOf es n
theorem at_push (h : Heap) (es : List DictEntry) (n : Nat) : (h.push (dOf es n)).get? h.objs.size = some (dOf es n) := Heap.get?_push_size h rfl
section
variable {prog : Program} {w : World} {A : Around} {E : Value → Shared → Prop}
/-- a name is stored into a dict that was laid just now -/
theorem nsSet_laid {s : Shared} {h0 : Heap} {es : List DictEntry} {n : Nat} {k : Str} {v : Value} {Q : Unit → Shared → Prop} (hh : s.heap = h0.push (dOf es n)) (other : ∀ e ∈ es, e.key.isStr k = false) (plain : ∀ e ∈ es, e.refKey = false)
    (q : Q () { s with heap := h0.push (dOf (es ++ [⟨PyData.keyHash w.params k, .str k s.toks, v⟩]) (n + 1)), toks := s.toks + 1 }) : wpAny (model prog w) A (nsSet h0.objs.size k v) Q E s := by
  have a1 : es.any (·.key.isStr k) = false := by
    rw [List.any_eq_false]
    intro e he z
    rw [other e he] at z
    cases z
  have a2 : es.any (·.refKey) = false := by
    rw [List.any_eq_false]
    intro e he z
    rw [plain e he] at z
    cases z
  have made : Obj.putName k (PyData.keyHash w.params k) (.str k s.toks) v (dOf es n) = dOf (es ++ [⟨PyData.keyHash w.params k, .str k s.toks, v⟩]) (n + 1) := by
    refine (PySem.W.putName_dict ..).trans ?_
    rw [PySem.W.putL_new other]
    show PySem.W.dictOf _ (if es.any (·.key.isStr k) then n else n + 1) = _
    rw [a1]
    rfl
  have free : aRefKeyMayBeTheName k es.toArray = false := by
    rw [aRefKeyMayBeTheName_at]
    rw [← Array.any_toList, ← Array.any_toList]
    show (!es.any (·.key.isStr k) && es.any (·.refKey)) = false
    rw [a2]
    exact Bool.and_false _
  have there : s.heap.get? h0.objs.size = some (dOf es n) := by
    rw [hh]
    exact at_push _ _ _
  unfold nsSet
  refine wpAny_bind (wpAny_bind (wpAny_askSetting (wpAny_pure ?_)))
  refine wpAny_bind (wpAny_mkText (wpAny_bind (wpAny_loadPart there ?_)))
  dsimp only
  rw [free]
  refine wpAny_updatePart there ?_
  show Q () { s with heap := s.heap.update h0.objs.size _, toks := s.toks + 1 }
  rw [hh, push_then]
  show Q () { s with heap := h0.push (Obj.putName k (PyData.keyHash w.params k) (.str k s.toks) v (dOf es n)), toks := s.toks + 1 }
  rw [made]
  exact q
/-- all the names, one after the other -/
theorem fill_laid {h0 : Heap} {Q : PUnit → Shared → Prop} : ∀ (ex : List (Str × Value)) (s : Shared) (es : List DictEntry) (n : Nat), s.heap = h0.push (dOf es n) → (∀ e ∈ es, ∀ x ∈ ex, e.key.isStr x.1 = false) → (∀ e ∈ es, e.refKey = false) → (ex.map (·.1)).Nodup →
    Q ⟨⟩ { s with heap := h0.push (dOf (es ++ PySem.W.kwEs w.params s.toks ex) (n + ex.length)), toks := s.toks + ex.length } →
    wpAny (model prog w) A (forIn ex PUnit.unit fun x _ => (nsSet h0.objs.size x.1 x.2 >>= fun _ => pure (ForInStep.yield PUnit.unit))) Q E s
  | [], s, es, n, hh, _, _, _, q => by
    rw [List.forIn_nil]
    refine wpAny_pure ?_
    have e : ({ s with heap := h0.push (dOf (es ++ PySem.W.kwEs w.params s.toks []) (n + 0)), toks := s.toks + 0 } : Shared) = s := by
      show ({ s with heap := h0.push (dOf (es ++ []) n), toks := s.toks } : Shared) = s
      rw [List.append_nil, ← hh]
    exact e ▸ q
  | x :: r, s, es, n, hh, other, plain, nd, q => by
    obtain ⟨n1, n2⟩ := List.nodup_cons.mp (show (x.1 :: r.map (·.1)).Nodup from nd)
    rw [List.forIn_cons]
    refine wpAny_bind (wpAny_bind (nsSet_laid hh (fun e he => other e he x List.mem_cons_self) plain (wpAny_pure ?_)))
    refine fill_laid r _ _ _ rfl (fun e he y hy => ?_) (fun e he => ?_) n2 ?_
    · rcases List.mem_append.mp he with h | h
      · exact other e h y (List.mem_cons_of_mem _ hy)
      · obtain rfl := List.mem_singleton.mp h
        show (x.1 == y.1) = false
        refine beq_eq_false_iff_ne.mpr fun z => n1 ?_
        rw [z]
        exact List.mem_map_of_mem hy
    · rcases List.mem_append.mp he with h | h
      · exact plain e h
      · obtain rfl := List.mem_singleton.mp h
        rfl
    · have e1 : n + 1 + r.length = n + (x :: r).length := by rw [List.length_cons]; omega
      have e2 : s.toks + 1 + r.length = s.toks + (x :: r).length := by rw [List.length_cons]; omega
      show Q ⟨⟩ { s with heap := h0.push (dOf ((es ++ [_]) ++ PySem.W.kwEs w.params (s.toks + 1) r) (n + 1 + r.length)), toks := s.toks + 1 + r.length }
      rw [e1, e2, List.append_assoc]
      exact q
end
/-- the keywords' dict, told -/
def kwV (ks : List Str) (zs : List V) : List (Key × V) := (ks.zip zs).map fun p => (Sum.inr p.1, p.2)
theorem kw_pairs {P : Program} {w : World} : ∀ {ks : List Str} {ws : List Value} (t : Tok), Pairs (mixKind P w) (PySem.W.kwEs w.params t (ks.zip ws)) ((ks.zip ws).map fun p => (Sum.inr p.1, p.2))
  | [], ws, t => by
    rw [List.zip_nil_left]
    exact .nil
  | k :: ks, [], t => by
    rw [List.zip_nil_right]
    exact .nil
  | k :: ks, u :: ws, t => by
    rw [List.zip_cons_cons]
    exact .cons (keyIs_str k t) rfl (kw_pairs (t + 1))
theorem kw_kv : ∀ {ks : List Str} {zs : List V} {ws : List Value}, Vals zs ws → KV (kwV ks zs) ((ks.zip ws).map fun p => (Sum.inr p.1, p.2))
  | [], zs, ws, _ => by
    unfold kwV
    rw [List.zip_nil_left, List.zip_nil_left]
    exact .nil
  | k :: ks, _, _, .nil => by
    unfold kwV
    rw [List.zip_nil_right, List.zip_nil_right]
    exact .nil
  | k :: ks, _, _, .cons r rs => .cons ⟨rfl, r⟩ (kw_kv rs)
theorem kw_keys {P : Params} : ∀ (ex : List (Str × Value)) (t : Tok) (e : DictEntry), e ∈ PySem.W.kwEs P t ex → ∃ k u, e.key = .str k u ∧ e.hash = PyData.keyHash P k := PySem.W.kwEs_key
theorem kw_ok {P : Program} {w : World} {H : Hp} {h : Heap} {ks : List Str} {zs : List V} {ws : List Value} (t : Tok) (big : sysModules < h.objs.size) (r : Vals zs ws) (nd : ks.Nodup) (few : ks.length ≤ 1000) (len : zs.length = ks.length) (m : Nat) :
    ObjOk P w H (h.push (dOf (PySem.W.kwEs w.params t (ks.zip ws)) m)) h.objs.size (.dK (kwV ks zs)) := by
  have lz : (kwV ks zs).length ≤ sizeLine := by
    unfold kwV
    rw [List.length_map, List.length_zip, len, Nat.min_self, sizeLine_eq]
    omega
  have lw : ws.length = ks.length := by rw [← r.length, len]
  have keys : (((ks.zip ws).map fun p => ((Sum.inr p.1 : Key), p.2)).map (·.1)) = ks.map Sum.inr := by
    rw [List.map_map]
    have : (ks.zip ws).map (fun p => (Sum.inr p.1 : Key)) = ((ks.zip ws).map Prod.fst).map Sum.inr := by rw [List.map_map]; rfl
    refine this.trans ?_
    rw [List.map_fst_zip (by omega)]
  refine ⟨lz, beq_eq_false_iff_ne.mpr (Ne.symm (Nat.ne_of_lt big)), _, kw_kv r, _, _, m, at_push _ _ _, ⟨rfl, rfl, rfl⟩, rfl, ?_, ?_, ?_⟩
  · intro e he
    obtain ⟨k, u, hk, hv⟩ := kw_keys _ _ e (by simpa using he)
    exact ⟨Sum.inr k, by rw [hk]; exact keyIs_str k u, hv.trans rfl⟩
  · show Pairs (mixKind P w) (PySem.W.kwEs w.params t (ks.zip ws)).toArray.toList _
    rw [List.toList_toArray]
    exact kw_pairs t
  · rw [keys]
    exact List.pairwise_map.mpr (List.Pairwise.imp (fun h z => h (Sum.inr.inj z)) nd)
/-- a def with the parameters (self, **more), called with these keywords -/
structure FnKW (P : Program) (w : World) (K : PySem.W.Frag) (mg : Str → Option Value) (base : Heap) (CX : CXT) (k : Nat) (f : Addr) (ks : List Str) (sp : Sp) : Prop where
  goes : ∀ (A : Around) (fs : List Env) (s : Shared) (H : Hp) (u : Value) (x : V) (ws : List Value) (zs : List V) (Q : VK) (E : XK), RoomG k A → Env0 P w K mg base A fs s H → RelV x u → Vals zs ws → zs.length = ks.length → (∀ D, H D = none → sp [x, .ref D] (upd H D (.dK (kwV ks zs))) Q E) →
    codeAny (model P w) A (.call (.ref f) ⟨[u], ks.zip ws⟩) (CR CX fs P w H s Q E) s
section
variable {P : Program} {w : World} {K : PySem.W.Frag} {mg : Str → Option Value} {base : Heap} {CX : CXT} {k : Nat} {f : Addr} {N : List Str} {sp : Sp} {ks : List Str}
theorem fn_kw {name qual ps pd : Str} {params : Arguments} {body : List Stmt} {scope : Scope} {dV kV doc pm cdv ct oc : Value} {an od : Option Addr} {osl : Array (Option Value)} (nd : ks.Nodup) (few : ks.length ≤ 1000)
    (lk : K.lookup f = some ⟨oc, od, .func (PySem.W.fnOf name qual params body scope dV kV doc pm an cdv ct), osl⟩) (hcd : PySem.W.codeIn K cdv qual = true) (S : FnScope N [ps, pd] scope) (up : StX.CXUp CX)
    (hb : ∀ (u : Value) (ws : List Value), ws.length = ks.length → bindArgs (PySem.W.fnOf name qual params body scope dV kV doc pm an cdv ct) ⟨[u], ks.zip ws⟩ =
      ((alloc (dOf [] 0) : Sem Addr) >>= fun D => (forIn (ks.zip ws) PUnit.unit fun x _ => (nsSet D x.1 x.2 >>= fun _ => pure (ForInStep.yield PUnit.unit))) >>= fun _ => pure [(ps, u), (pd, Value.ref D)]))
    (hbody : ∀ (A : Around) (fs : List Env) (s : Shared) (H : Hp) (vs : List V) (Q : VK) (E : XK), RoomG k (A.deeper (envOfC qual scope s.heap.objs.size f cdv)) → sp vs H Q E →
      ∃ t, PSs (cxOf CX P w K mg base N qual scope f cdv A fs s H E) body t ∧ t { nx := fun _ G => Q .non G, rt := Q } (start N vs) H) : FnKW P w K mg base CX (k + 1) f ks sp := by
  constructor
  intro A fs s H u x ws zs Q E room e0 rx rz len want
  have lw : ws.length = ks.length := by rw [← rz.length, len]
  have n0 : H s.heap.objs.size = none := e0.hok.fresh (Nat.le_refl _)
  refine StX.run_bnd lk hcd S room.r e0 (G := fun xs H2 => ∃ D, H D = none ∧ xs = [x, .ref D] ∧ H2 = upd H D (.dK (kwV ks zs))) (fun A' Ex Q' h => ?_) fun s2 H2 xs hG hr' => ?_
  · rw [hb u ws lw]
    refine wpAny_bind (wpAny_alloc (wpAny_bind ?_))
    have nz : ((ks.zip ws).map (·.1)).Nodup := by
      have : (ks.zip ws).map (·.1) = ks := List.map_fst_zip (by omega)
      rw [this]
      exact nd
    refine fill_laid (h0 := s.heap) (ks.zip ws) _ [] 0 rfl (fun _ he => nomatch he) (fun _ he => nomatch he) nz (wpAny_pure ?_)
    have new := kw_ok (P := P) (w := w) (H := upd H s.heap.objs.size (.dK (kwV ks zs))) (h := s.heap) (ks := ks) (zs := zs) (ws := ws) s.toks (StX.env0_big e0) rz nd few len (0 + (ks.zip ws).length)
    have un := StX.un_laid (fs := frs fs) (s := s) (o := dOf ([] ++ PySem.W.kwEs w.params s.toks (ks.zip ws)) (0 + (ks.zip ws).length)) (u := .dK (kwV ks zs)) n0
    have e1 := StX.env0_laid e0 new
    refine h { s with heap := s.heap.push (dOf ([] ++ PySem.W.kwEs w.params s.toks (ks.zip ws)) (0 + (ks.zip ws).length)), toks := s.toks + (ks.zip ws).length } _ [x, .ref s.heap.objs.size] [u, .ref s.heap.objs.size] ?_ un rfl
      (fun e s' => up fs s H _ _ E e s' un (fun b o q => Heap.get?_push_of_some _ q) rfl) (.cons rx (.cons rfl .nil)) rfl ⟨_, n0, rfl, rfl⟩
    exact ⟨e1.frames, e1.mod, e1.bs, e1.bsz, e1.funs, e1.frf, e1.hok, e1.bare⟩
  · obtain ⟨D, hD, ex, eH⟩ := hG
    subst ex eH
    exact hbody A fs s2 _ _ Q E ⟨hr', room.g⟩ (want D hD)
end
/-- C(k = v, ..): a new instance and its dict, the keywords' dict, then __init__ -/
def tMakeKW (C : Addr) (m : Nat) (ks : List Str) (sp : Sp) (E : XK) (tk : TA) : TE := fun σ H Q => tk σ H fun zs H2 => zs.length = m ∧ ∀ x dx, H2 x = none → H2 dx = none → dx ≠ x →
  ∀ D, upd (upd H2 dx (.own x)) x (.ins C dx []) D = none → sp [.ref x, .ref D] (upd (upd (upd H2 dx (.own x)) x (.ins C dx [])) D (.dK (kwV ks zs))) (fun v H3 => v = .non ∧ Q (.ref x) H3) E
theorem RoomG.makeKW {k : Nat} {A : Around} (r : RoomG (k + 1) A) (C : Addr) (us : List Value) (kw : List (Str × Value)) : RoomG k (A.under (.builtin "type.__call__" ⟨.ref C :: us, kw⟩)) := ⟨r.r.make C us kw, by
  have e : (A.under (.builtin "type.__call__" ⟨.ref C :: us, kw⟩)).guards = A.guards := by first | rfl | simp [Around.under, Code.weight, Code.isCreation, Code.isGuard, Code.isCaller, Code.frames, Code.isFrame, guardIds]
  rw [e]
  exact r.g⟩
section
variable {X : Cx} {CX : CXT} {k : Nat} {f C : Addr} {ks : List Str} {sp : Sp} {E : XK} {x : Str} {p pos : Pos} {kws : List Keyword} {tk : TA}
theorem pe_makeKW (M : Mk X.K C f) (F : FnKW X.prog X.w X.K X.mg X.base CX k f ks sp) (room : RoomG (k + 1) X.A) (hg : Gl X x) (hm : X.mg x = some (.ref C)) (hx : Passes CX X E) (hkw : PK X kws tk)
    (hall : (backToKw pos (keywordEach kws X.env)).all (·.1.isSome) = true := by rfl) (hks : (backToKw pos (keywordEach kws X.env)).filterMap (·.1) = ks := by rfl) (hdb : (x == ("__debug__" : Str)) = false := by decide)
    (hpl : ((backTo pos (starEach [] X.env)).any (·.1) || (backToKw pos (keywordEach kws X.env)).any (·.1.isNone)) = false := by rfl) :
    PE X (.Call (.Name x p) [] kws pos) (tMakeKW C ks.length ks sp E tk) := by
  constructor
  intro pins s σ H Q I h
  refine wpAny_Call_Name_kw (ld_glob I hg hm ?_ hdb)
  refine PySem.W.callWith_KW0 (h₀ := X.base) I.ok.mod.kin M.kp hall (thn (hkw.run pos pins s σ H _ I h) fun ws z ⟨zs, G, J, rz, l2, q⟩ => ⟨J.kIn, ?_⟩) hpl
  rw [hks]
  have n1 : G (z.heap.objs.size + 1) = none := J.hok.fresh (Nat.le_succ _)
  have n2 : G z.heap.objs.size = none := J.hok.fresh (Nat.le_refl _)
  have hq := q (z.heap.objs.size + 1) z.heap.objs.size n1 n2 (Nat.ne_of_lt (Nat.lt_succ_self _))
  have J2 := Inv.made (C := C) J
  refine wpAny_call (make_map (f := f) J.kIn M.makes M.init (beq_iff_eq.mp M.fn) (codeAny_mono (F.goes _ X.stack _ _ (Value.ref (z.heap.objs.size + 1)) (.ref (z.heap.objs.size + 1)) ws zs _ E (room.makeKW C [] (ks.zip ws)) (J2.env0.make C [] (ks.zip ws)) rfl rz l2 hq) fun r s' hz => ?_))
  match r, hz with
  | .error er, hz => exact hx pins σ _ _ er s' J2 hz
  | .ok (.ret u), hz =>
    obtain ⟨v, H', J3, rv, ev, q3⟩ := J2.after hz
    subst ev
    exact ⟨rv, ⟨V.ref (z.heap.objs.size + 1), H', J3, rfl, q3⟩⟩
end
end G9

/-! An own class, its facts asked at once; class methods; != by an own __eq__. -/
namespace G9
open PySem PySem.Spec PyProof.Rows L2
/-- the built-in kinds that values have here -/
def kindsB : List String := ["NoneType", "bool", "int", "str", "list", "tuple", "dict"]
structure OwnC (K : PySem.W.Frag) (C : Addr) (mc : Value) : Prop where
  cl : Cls K C
  ha : PySem.W.findIn K (.ref C) "__class__" = some (some (.builtin "object.__class__"))
  hn : PySem.W.specialIn K (.builtin "object.__class__") "__get__" = some (some (.builtin "getset_descriptor.__get__"))
  ht : PySem.W.takesIn K (.builtin "object.__class__") = some true
  hm : PySem.W.mroIn K C (.type "object") = some true
  rd : ClX.CRead K C mc
  sf : PySem.W.selfFirst K C = true
  kp : PySem.W.keepIn K (.ref C) = true
  makes : PySem.W.makesIn K C = true
  no : ∀ T ∈ kindsB, PySem.W.kitOne K (.type T) (.ref C) = some false
  me : PySem.W.kitOne K (.ref C) (.ref C) = some true
  nk : ∀ T ∈ kindsB, PySem.W.kitOne K (.ref C) (.type T) = some false
  nf : ∀ T ∈ kindsB, PySem.W.notFirst K C (.type T) = true
def ownCB (K : PySem.W.Frag) (C : Addr) (mc : Value) : Bool :=
  PySem.W.plainGet K C Str.empty && (PySem.W.hasDictIn K C && (PySem.W.plainOver K C && (same (PySem.W.findIn K (.ref C) "__setattr__") (some (some (.builtin "object.__setattr__"))) &&
  (same (PySem.W.findIn K (.ref C) "__class__") (some (some (.builtin "object.__class__"))) && (same (PySem.W.specialIn K (.builtin "object.__class__") "__get__") (some (some (.builtin "getset_descriptor.__get__"))) &&
  (decide (PySem.W.takesIn K (.builtin "object.__class__") = some true) && (decide (PySem.W.mroIn K C (.type "object") = some true) && (PySem.W.readsIn K C mc &&
  (same (PySem.W.specialIn K (.ref C) "__getattribute__") (some (some (.builtin "type.__getattribute__"))) && (PySem.W.selfFirst K C && (PySem.W.keepIn K (.ref C) && (PySem.W.makesIn K C &&
  ((kindsB.all fun T => decide (PySem.W.kitOne K (.type T) (.ref C) = some false)) && (decide (PySem.W.kitOne K (.ref C) (.ref C) = some true) && ((kindsB.all fun T => decide (PySem.W.kitOne K (.ref C) (.type T) = some false)) &&
  (kindsB.all fun T => PySem.W.notFirst K C (.type T)))))))))))))))))
theorem ownC_mk {K : PySem.W.Frag} {C : Addr} {mc : Value} (h : ownCB K C mc = true) : OwnC K C mc := by
  obtain ⟨h1, h⟩ := b2 h
  obtain ⟨h2, h⟩ := b2 h
  obtain ⟨h3, h⟩ := b2 h
  obtain ⟨h4, h⟩ := b2 h
  obtain ⟨h5, h⟩ := b2 h
  obtain ⟨h6, h⟩ := b2 h
  obtain ⟨h7, h⟩ := b2 h
  obtain ⟨h8, h⟩ := b2 h
  obtain ⟨h9, h⟩ := b2 h
  obtain ⟨h10, h⟩ := b2 h
  obtain ⟨h11, h⟩ := b2 h
  obtain ⟨h12, h⟩ := b2 h
  obtain ⟨h13, h⟩ := b2 h
  obtain ⟨h14, h⟩ := b2 h
  obtain ⟨h15, h⟩ := b2 h
  obtain ⟨h16, h17⟩ := b2 h
  exact ⟨⟨h1, h2, h3, same_ok h4⟩, same_ok h5, same_ok h6, of_decide_eq_true h7, of_decide_eq_true h8, ⟨h9, same_ok h10⟩, h11, h12, h13,
    fun T hT => of_decide_eq_true (List.all_eq_true.mp h14 T hT), of_decide_eq_true h15, fun T hT => of_decide_eq_true (List.all_eq_true.mp h16 T hT), fun T hT => List.all_eq_true.mp h17 T hT⟩
theorem OwnC.ty {K : PySem.W.Frag} {C : Addr} {mc : Value} (O : OwnC K C mc) {H : Hp} {a dx : Addr} {fs : List (Str × V)} (e : H a = some (.ins C dx fs)) : TyX K H (.ref a) (.ref C) := .base (.ins e O.cl O.ha O.hn O.ht O.hm)
theorem OwnC.nfC {K : PySem.W.Frag} {C : Addr} {mc : Value} (O : OwnC K C mc) : PySem.W.notFirst K C (.ref C) = true := by
  unfold PySem.W.notFirst
  rw [beq_self_eq_true, Bool.true_or]
theorem rec_hd {K : PySem.W.Frag} {p f : Addr} {T : String} {od : Option Addr} {vs : Array Value} {sl : Array (Option Value)} (h : K.lookup p = some ⟨.type T, od, .fields vs, sl⟩) (e : vs.toList.head? = some (.ref f)) : ∃ rest, PySem.W.recIn K p T = some (.ref f :: rest) := by
  cases z : vs.toList with
  | nil =>
    rw [z] at e
    cases e
  | cons a r =>
    rw [z] at e
    cases e
    refine ⟨r, ?_⟩
    unfold PySem.W.recIn
    rw [h]
    dsimp only
    rw [if_pos (beq_self_eq_true T), z]
/-- a value of one of these kinds -/
def KindAt (K : PySem.W.Frag) (H : Hp) (x : V) : Prop := ∃ T, T ∈ kindsB ∧ TyX K H x (.type T)
theorem kind_non {K : PySem.W.Frag} {H : Hp} : KindAt K H .non := ⟨"NoneType", by decide, .base .non⟩
theorem kind_bl {K : PySem.W.Frag} {H : Hp} {b : Bool} : KindAt K H (.bl b) := ⟨"bool", by decide, .base (.bl b)⟩
theorem kind_int {K : PySem.W.Frag} {H : Hp} {i : Int} : KindAt K H (.int i) := ⟨"int", by decide, .base (.int i)⟩
theorem kind_str {K : PySem.W.Frag} {H : Hp} {s : Str} : KindAt K H (.str s) := ⟨"str", by decide, .base (.str s)⟩
theorem kind_lst {K : PySem.W.Frag} {H : Hp} {a : Addr} {xs : List V} (e : H a = some (.lst xs)) : KindAt K H (.ref a) := ⟨"list", by decide, .base (.lst e)⟩
theorem kind_tup {K : PySem.W.Frag} {H : Hp} {a : Addr} {xs : List V} (e : H a = some (.tup xs)) : KindAt K H (.ref a) := ⟨"tuple", by decide, .base (.tup e)⟩
theorem kind_dK {K : PySem.W.Frag} {H : Hp} {a : Addr} {kvs : List (Key × V)} (e : H a = some (.dK kvs)) : KindAt K H (.ref a) := ⟨"dict", by decide, .base (.dK e)⟩
/-- isinstance(x, C) -/
theorem l_isOwn {K : PySem.W.Frag} {C : Addr} {mc : Value} (O : OwnC K C mc) {H : Hp} {a dx : Addr} {fs : List (Str × V)} {Q : VK} (e : H a = some (.ins C dx fs)) (q : Q (.bl true) H) : rIsi K [.ref a, .ref C] H Q :=
  ⟨_, _, _, _, true, rfl, .own C, O.ty e, O.me, q⟩
theorem l_notOwn {K : PySem.W.Frag} {C : Addr} {mc : Value} (O : OwnC K C mc) {H : Hp} {x : V} {Q : VK} (h : KindAt K H x) (q : Q (.bl false) H) : rIsi K [x, .ref C] H Q := by
  obtain ⟨T, hT, ty⟩ := h
  exact ⟨_, _, _, _, false, rfl, .own C, ty, O.no T hT, q⟩
section
variable {X : Cx} {CX : CXT} {k : Nat} {C p g : Addr} {mc : Value} {fd : FuncData} {ps : List Str} {sp : Sp} {E : XK} {o e : Expr} {es : List Expr} {m : Str} {pos apos : Pos} {ta : TE} {t : TA} {pl : Sem Bool}
/-- C.m(e, ..), m a class method -/
def tClsM (C : Addr) (sp : Sp) (E : XK) (ta : TE) (t : TA) : TE := fun σ H Q => ta σ H fun x H1 => x = .ref C ∧ t σ H1 fun vs H2 => sp (.ref C :: vs) H2 Q E
theorem pe_clsG (he : PE X o ta) (r : ClX.CRead X.K C mc) (c : ClX.CMet X.K C mc m p g) (F : FnG X.prog X.w X.K X.mg X.base CX k g fd ps sp) (room : RoomG k X.A) (hb : Binds X.K fd ps []) (hx : Passes CX X E) (ha : PA X (e :: es) t)
    (hst : starEach (e :: es) X.env = (false, eval e X.env) :: starEach es X.env := by rfl) (hpl : (backTo pos (starEach es X.env)).any (·.1) = false := by rfl)
    (ht : eval (.Call (.Attribute o m apos) (e :: es) [] pos) X.env = (do
      let ov ← eval o X.env
      standAt apos.atName
      let (g, first) ← holding [ov] (getMethod ov m pl)
      callWith pos g first (backTo pos (starEach (e :: es) X.env)) (backToKw pos (keywordEach [] X.env))) := by rfl) : PE X (.Call (.Attribute o m apos) (e :: es) [] pos) (tClsM C sp E ta t) := by
  constructor
  intro pins s σ H Q I h
  refine PySem.W.methodCall_KW (pl := pl) (thn (he.run pins s σ H _ I h) fun u z ⟨x, G, J, rx, ex, q⟩ => ?_) ht
  subst ex
  obtain rfl : u = Value.ref C := rx
  refine ClX.getmethcm_ok J r c fun z2 J2 => ?_
  refine ClX.callwith_cm J2 (ClX.base_none J (Nat.le_refl _)) c.fi (thn (ha.run pos _ z2 σ G _ J2 q) fun us z3 ⟨vs, G2, J3, rv, q2⟩ => ⟨⟨ClX.pin_at J3, J3.kIn⟩, ?_⟩) hst hpl
  have q3 : sp ((.ref C :: vs) ++ []) G2 Q E := by rw [List.append_nil]; exact q2
  have len : ((Value.ref C :: us)).length = ps.length := by
    have := F.count _ _ _ _ q3
    rw [List.append_nil] at this
    rw [← this, List.length_cons, List.length_cons, rv.length]
  have rr : Vals (V.ref C :: vs) (Value.ref C :: us) := .cons (rv_ref C) rv
  refine thn (Q := EP X ((z.heap.objs.size, PySem.W.methodObj (.ref g) (.ref C)) :: pins) σ Q) (wpAny_call (PySem.W.method_call (ClX.pin_at J3) (codeAny_mono (F.goes X.A X.stack z3 G2 ⟨Value.ref C :: us, []⟩ (Value.ref C :: us) (V.ref C :: vs) Q E room J3.env0 (by
    have b := hb z3 (Value.ref C :: us) J3.kIn (by rw [List.append_nil]; exact len)
    rw [List.append_nil] at b
    exact b) rr q2) fun res z4 hz => ?_))) fun _ _ y => ClX.unpinE y
  match res, hz with
  | .error er, hz => exact hx _ σ G2 z3 er z4 J3 hz
  | .ok (.ret u), hz => exact J3.after hz
/-- what is raised in a body goes where the body's exceptions go -/
theorem pxE {W : WX} {E : XK} (tk : Takes X W) (hW : ∀ cls d σ H, E cls d H → W cls d σ H) : Passes (L2.CX X.prog X.w) X E := L2.passes_call tk hW
end
end G9

/-! Texts in order; sorted of a tuple of texts; tuple of a dict; dicts compared by what they hold. -/
namespace G9
open PySem PySem.Spec PyProof.Rows L2
/-! ### texts in order -/
/-- y does not stand behind x -/
def leS (x y : Str) : Prop := ltCps y.cps.toList x.cps.toList = false
def ltS (x y : Str) : Prop := ltCps x.cps.toList y.cps.toList = true
instance {x y : Str} : Decidable (leS x y) := inferInstanceAs (Decidable (_ = false))
instance {x y : Str} : Decidable (ltS x y) := inferInstanceAs (Decidable (_ = true))
theorem ltC_irrefl : ∀ a : List Nat, ltCps a a = false
  | [] => rfl
  | x :: r => by
    show (decide (x < x) || ((x == x) && ltCps r r)) = false
    rw [ltC_irrefl r]
    simp
theorem ltC_cons {a b : Nat} {r t : List Nat} : ltCps (a :: r) (b :: t) = true ↔ a < b ∨ (a = b ∧ ltCps r t = true) := by
  show (decide (a < b) || ((a == b) && ltCps r t)) = true ↔ _
  simp [Bool.or_eq_true, Bool.and_eq_true]
theorem ltC_trans : ∀ {a b c : List Nat}, ltCps a b = true → ltCps b c = true → ltCps a c = true
  | [], [], _, h, _ => absurd h (by decide)
  | [], _ :: _, [], _, h => absurd h (by simp [ltCps])
  | [], _ :: _, _ :: _, _, _ => rfl
  | _ :: _, [], _, h, _ => absurd h (by simp [ltCps])
  | _ :: _, _ :: _, [], _, h => absurd h (by simp [ltCps])
  | a :: r, b :: t, c :: u, h1, h2 => by
    rw [ltC_cons] at *
    rcases h1 with h1 | ⟨rfl, h1⟩
    · rcases h2 with h2 | ⟨rfl, h2⟩
      · exact Or.inl (by omega)
      · exact Or.inl h1
    · rcases h2 with h2 | ⟨rfl, h2⟩
      · exact Or.inl h2
      · exact Or.inr ⟨rfl, ltC_trans h1 h2⟩
theorem ltC_tri : ∀ {a b : List Nat}, ltCps a b = false → ltCps b a = false → a = b
  | [], [], _, _ => rfl
  | [], _ :: _, h, _ => absurd h (by simp [ltCps])
  | _ :: _, [], _, h => absurd h (by simp [ltCps])
  | a :: r, b :: t, h1, h2 => by
    have e1 : ¬ (a < b ∨ (a = b ∧ ltCps r t = true)) := fun z => by rw [ltC_cons.mpr z] at h1; cases h1
    have e2 : ¬ (b < a ∨ (b = a ∧ ltCps t r = true)) := fun z => by rw [ltC_cons.mpr z] at h2; cases h2
    have e : a = b := by omega
    subst e
    have f1 : ltCps r t = false := by
      cases q : ltCps r t with
      | false => rfl
      | true => exact absurd (Or.inr ⟨rfl, q⟩) e1
    have f2 : ltCps t r = false := by
      cases q : ltCps t r with
      | false => rfl
      | true => exact absurd (Or.inr ⟨rfl, q⟩) e2
    rw [ltC_tri f1 f2]
theorem str_ext {x y : Str} (h : x.cps.toList = y.cps.toList) : x = y := by
  obtain ⟨⟨l⟩⟩ := x
  obtain ⟨⟨m⟩⟩ := y
  have h : l = m := h
  rw [h]
theorem ltS_trans {x y z : Str} (a : ltS x y) (b : ltS y z) : ltS x z := ltC_trans a b
theorem ltS_irrefl (x : Str) : ¬ ltS x x := fun h => by
  have h : ltCps x.cps.toList x.cps.toList = true := h
  rw [ltC_irrefl] at h
  cases h
theorem leS_iff {x y : Str} : leS x y ↔ ltS x y ∨ x = y := by
  constructor
  · intro h
    cases q : ltCps x.cps.toList y.cps.toList with
    | true => exact Or.inl q
    | false => exact Or.inr (str_ext (ltC_tri q h))
  · rintro (h | rfl)
    · cases q : ltCps y.cps.toList x.cps.toList with
      | false => exact q
      | true => exact absurd (ltC_trans h q) (ltS_irrefl x)
    · exact ltC_irrefl _
theorem rising_iff : ∀ (l : List Str) (p : Str), risingS p l = true ↔ (p :: l).Pairwise leS
  | [], p => by simp [risingS]
  | x :: r, p => by
    show (!ltCps x.cps.toList p.cps.toList && risingS x r) = true ↔ _
    rw [Bool.and_eq_true, rising_iff r x, List.pairwise_cons (a := p)]
    constructor
    · rintro ⟨a, b⟩
      have a : leS p x := by simpa [leS] using a
      refine ⟨fun y hy => ?_, b⟩
      rcases List.mem_cons.mp hy with rfl | hy
      · exact a
      · have c := (List.pairwise_cons.mp b).1 y hy
        rcases leS_iff.mp a with a | rfl
        · rcases leS_iff.mp c with c | rfl
          · exact leS_iff.mpr (Or.inl (ltS_trans a c))
          · exact leS_iff.mpr (Or.inl a)
        · exact c
    · rintro ⟨a, b⟩
      have c : leS p x := a x List.mem_cons_self
      exact ⟨by simpa [leS] using c, b⟩
theorem sortedS_iff {l : List Str} : sortedS l = true ↔ l.Pairwise leS := by
  cases l with
  | nil => simp [sortedS]
  | cons x r => exact rising_iff r x
/-- in order, none twice -/
def Asc (l : List Str) : Prop := l.Pairwise ltS
theorem asc_of {l : List Str} (h : sortedS l = true) (nd : l.Nodup) : Asc l := by
  have h1 := sortedS_iff.mp h
  exact (h1.and nd).imp fun ⟨a, b⟩ => (leS_iff.mp a).resolve_right b
theorem ltS_ne {a b : Str} (q : ltS a b) : a ≠ b := fun e => by
  rw [e] at q
  exact ltS_irrefl b q
theorem Asc.nodup {l : List Str} (h : Asc l) : l.Nodup := List.Pairwise.imp (fun q => ltS_ne q) h
/-- one order alone -/
theorem asc_unique : ∀ {l m : List Str}, Asc l → Asc m → l.Perm m → l = m
  | [], m, _, _, p => (List.nil_perm.mp p).symm
  | x :: r, [], _, _, p => absurd p.length_eq (by simp)
  | x :: r, y :: t, a, b, p => by
    have a1 := List.pairwise_cons.mp a
    have b1 := List.pairwise_cons.mp b
    have e : x = y := by
      have hx : x ∈ y :: t := p.mem_iff.mp List.mem_cons_self
      have hy : y ∈ x :: r := p.mem_iff.mpr List.mem_cons_self
      rcases List.mem_cons.mp hx with h | h
      · exact h
      · rcases List.mem_cons.mp hy with h' | h'
        · exact h'.symm
        · exact absurd (ltS_trans (b1.1 x h) (a1.1 y h')) (ltS_irrefl y)
    subst e
    rw [asc_unique a1.2 b1.2 (List.Perm.cons_inv p)]
/-! ### sorted(t), t a tuple of texts -/
section
variable {X : Cx}
def rSortedT (K : PySem.W.Frag) : List V → Hp → VK → Prop := fun vs H Q => ∃ (a : Addr) (xs : List Str), vs = [V.ref a] ∧ SqT K H a (xs.map V.str) ∧ xs.length < 64 ∧
  ∀ (ys : List Str) (p : Addr), ys.Perm xs → sortedS ys = true → H p = none → Q (.ref p) (upd H p (.lst (ys.map V.str)))
theorem call_sortedT : CallR X (.builtin "sorted") (rSortedT X.K) := by
  intro pins s σ H vs us Q I r h
  obtain ⟨a, xs, rfl, hs, h64, q⟩ := h
  obtain ⟨u, rfl, rx⟩ := vals1 r
  obtain rfl : u = Value.ref a := rx
  obtain ⟨its, rv, pl, hz⟩ := I.tuple hs
  obtain ⟨o, ho, hc, n, hd⟩ := pl
  have hlen := rv.length
  rw [List.length_map] at hlen
  have hS : StrsAre its xs := rv.strs
  refine Calls.call_function_entry PyProof.Rows.kind_sorted PyProof.Rows.plain_sorted PyProof.Rows.entry_sorted (PyProof.Rows.args_sorted1 _) ?_
  unfold Builtin.«sorted»
  refine wpAny_bind (m := checkCount "sorted" 1 1 _) (wpAny_pure ?_)
  refine wpAny_bind (wpAny_collect_seq a (.inr rfl) ho hc hd (fun h' hk => ?_) (by rw [List.size_toArray, ← hlen, sizeLine_eq]; omega))
  rw [List.toList_toArray]
  have I1 : Inv X pins σ H { s with heap := h' } := I.kept (t' := s.toks) hk
  refine wpAny_bind (wpAny_newList ?_ (by rw [← hlen, sizeLine_eq]; omega))
  have hoL : (h'.push (seqObj "list" its.toArray 0)).get? h'.objs.size = some (seqObj "list" its.toArray 0) := Heap.get?_push_size _ rfl
  show wpAny _ _ _ _ _ { s with heap := h'.push (seqObj "list" its.toArray 0) }
  refine wpAny_bind (wpAny_holding (wpAny_call_entry PyProof.Rows.slot_list_sort ⟨_, hoL, rfl⟩ PyProof.Rows.entry_list_sort
    (list_sort_treeK strKind_oneLt (s := { s with heap := h'.push (seqObj "list" its.toArray 0) }) hoL hS.keysOf (fun v₁ v₂ rest e => keyKind_strs (by rw [← e]; exact hS)) (by rw [← hlen]; exact h64) fun st' hp hs => ⟨_, rfl, ?_⟩) (PyProof.Rows.args_list_sort _)))
  obtain ⟨ys, g1, g2, g3⟩ := sorted_out_str hS hp hs
  obtain ⟨e', he'⟩ := PyProof.Rows.sortedHeap_at (vs := its) (out := (arrOf st').map (·.2)) hoL
  have lz : (ys.map V.str).length ≤ sizeLine := by
    rw [List.length_map, g2.length_eq, sizeLine_eq]
    omega
  have mine : ObjOk X.prog X.w (upd H h'.objs.size (.lst (ys.map V.str))) (PyProof.Rows.sortedHeap (h'.push (seqObj "list" its.toArray 0)) h'.objs.size its ((arrOf st').map (·.2))) h'.objs.size (.lst (ys.map V.str)) :=
    ⟨lz, ((arrOf st').map (·.2)).toList, e', vals_of_strs g1, by rw [Array.toArray_toList]; exact he'⟩
  refine wpAny_pure ⟨_, rfl, .ref h'.objs.size, upd H h'.objs.size (.lst (ys.map V.str)), I1.laid (t' := s.toks) (fun b u e => ?_) (Nat.le_refl _) mine, rfl, q ys _ g2 g3 (I1.hok.fresh (Nat.le_refl _))⟩
  have hb : b < h'.objs.size := Heap.lt_size e
  rw [PyProof.Rows.sortedHeap_old (Nat.ne_of_lt hb) (by rw [size_push']; exact Nat.lt_succ_of_lt hb)]
  exact Heap.get?_push_of_some _ e
end
/-! ### dicts compared by what they hold -/
section
variable {K : PySem.W.Frag} {H : Hp}
/-- a dict's values, told as data -/
def HoldsD (K : PySem.W.Frag) (H : Hp) : List (Key × V) → List (Key × PyData) → Prop := Paired fun p q => p.1 = q.1 ∧ Dp K H p.2 q.2 ∧ SeqAt.shaped q.2 = true
def findD (ls : List (Key × PyData)) (k : Key) : Option PyData := (ls.find? fun p => decide (p.1 = k)).map (·.2)
/-- each key of the first one has an equal value in the second one -/
def inD (ls : List (Key × PyData)) : List (Key × PyData) → Bool
  | [] => true
  | p :: r => match findD ls p.1 with
    | none => false
    | some y => PyData.eqv p.2 y && inD ls r
theorem findD_some {kvs : List (Key × V)} {ls : List (Key × PyData)} {k : Key} (h : HoldsD K H kvs ls) : (findD ls k = none ∧ valV kvs k = none) ∨ ∃ d v, findD ls k = some d ∧ valV kvs k = some v ∧ Dp K H v d ∧ SeqAt.shaped d = true := by
  induction h with
  | nil => exact Or.inl ⟨rfl, rfl⟩
  | @cons p q ps qs h t ih =>
    obtain ⟨h1, h2, h3⟩ := h
    by_cases e : p.1 = k
    · refine Or.inr ⟨q.2, p.2, ?_, valV_pos e, h2, h3⟩
      have : q.1 = k := h1 ▸ e
      simp [findD, List.find?_cons, this]
    · have e2 : ¬ q.1 = k := fun z => e (h1.trans z)
      have f1 : findD (q :: qs) k = findD qs k := by simp [findD, List.find?_cons, e2]
      have f2 : valV (p :: ps) k = valV ps k := by simp [valV, List.find?_cons, e]
      rw [f1, f2]
      exact ih
end
section
variable {X : Cx}
theorem hits_data {A : Around} {pins : List (Addr × Obj)} {σ : L2.St} {H : Hp} {s : Shared} (I : Inv X pins σ H s) (room : A.units + 64 < cLine) {lvs : List (Key × V)} {vb : List (Key × Value)} (rb : KV lvs vb) {ls : List (Key × PyData)} (hb : HoldsD X.K H lvs ls) :
    ∀ {kvs : List (Key × V)} {va : List (Key × Value)} {ks : List (Key × PyData)}, KV kvs va → HoldsD X.K H kvs ks → PySem.W.KeqHits A s vb va (inD ls ks) := by
  intro kvs va ks ra ha
  unfold KV at ra
  induction ra generalizing ks with
  | nil =>
    cases ha
    exact .nil
  | @cons p q ps qs h t ih =>
    cases ha with
    | @cons _ d _ ds hd td =>
      obtain ⟨h1, h2⟩ := h
      obtain ⟨d1, d2, d3⟩ := hd
      obtain ⟨k, v⟩ := q
      have h1 : p.1 = k := h1
      have kd : d.1 = k := d1 ▸ h1
      have val : ∀ o, valV lvs k = o → RelO o (valueAt vb k) := fun o e => e ▸ rb.val k
      show PySem.W.KeqHits A s vb ((k, v) :: qs) (match findD ls d.1 with | none => false | some y => PyData.eqv d.2 y && inD ls ds)
      rw [kd]
      rcases findD_some (k := k) hb with ⟨e1, e2⟩ | ⟨y, w1, e1, e2, e3, e4⟩
      · rw [e1]
        exact .miss (RelO.none_of (val _ e2))
      · rw [e1]
        obtain ⟨u, hu, ru⟩ := RelO.some_of (val _ e2)
        obtain ⟨as, r1⟩ := Dp.reads I _ _ _ d2 h2
        obtain ⟨bs, r2⟩ := Dp.reads I _ _ _ e3 ru
        exact .hit hu (SeqAt.eqAt_reads _ _ _ _ _ _ _ _ r1 r2 (SeqAt.canLay_of_shaped d3) (SeqAt.canLay_of_shaped e4) (SeqAt.room_of_shaped d3 room)) (ih td)
def eqD (ks ls : List (Key × PyData)) : Bool := ks.length == ls.length && inD ls ks
def rEqDD (K : PySem.W.Frag) : R2 := fun x y H Q => ∃ (a b : Addr) (kvs lvs : List (Key × V)) (ks ls : List (Key × PyData)), x = .ref a ∧ y = .ref b ∧ Rd H a (.dK kvs) ∧ Rd H b (.dK lvs) ∧ HoldsD K H kvs ks ∧ HoldsD K H lvs ls ∧ Q (.bl (eqD ks ls)) H
def rNeDD (K : PySem.W.Frag) : R2 := fun x y H Q => ∃ (a b : Addr) (kvs lvs : List (Key × V)) (ks ls : List (Key × PyData)), x = .ref a ∧ y = .ref b ∧ Rd H a (.dK kvs) ∧ Rd H b (.dK lvs) ∧ HoldsD K H kvs ks ∧ HoldsD K H lvs ls ∧ Q (.bl (!eqD ks ls)) H
theorem op_eqDD (room : X.A.units + 70 < cLine) : OpR X (compareOp .Eq) (rEqDD X.K) := by
  intro pins s σ H x y v u Q I rx ry h
  obtain ⟨a, b, kvs, lvs, ks, ls, rfl, rfl, ea, eb, ha, hb, q⟩ := h
  obtain rfl : v = Value.ref a := rx
  obtain rfl : u = Value.ref b := ry
  obtain ⟨_, ya, va, ra, da⟩ := dk_rd I.hok ea
  obtain ⟨_, yb, vb, rb, db⟩ := dk_rd I.hok eb
  have l1 : va.length = ks.length := ra.length.symm.trans ha.length
  have l2 : vb.length = ls.length := rb.length.symm.trans hb.length
  refine PySem.W.keq_eq (knd := mixKind X.prog X.w) (r := inD ls ks) ya yb da db (by omega) (fun _ => hits_data I (by show X.A.units + 1 + 64 < cLine; omega) rb hb ra ha) ?_
  rw [l1, l2]
  exact ⟨.bl _, H, I, rfl, q⟩
theorem op_neDD (room : X.A.units + 70 < cLine) : OpR X (compareOp .NotEq) (rNeDD X.K) := by
  intro pins s σ H x y v u Q I rx ry h
  obtain ⟨a, b, kvs, lvs, ks, ls, rfl, rfl, ea, eb, ha, hb, q⟩ := h
  obtain rfl : v = Value.ref a := rx
  obtain rfl : u = Value.ref b := ry
  obtain ⟨_, ya, va, ra, da⟩ := dk_rd I.hok ea
  obtain ⟨_, yb, vb, rb, db⟩ := dk_rd I.hok eb
  have l1 : va.length = ks.length := ra.length.symm.trans ha.length
  have l2 : vb.length = ls.length := rb.length.symm.trans hb.length
  refine PySem.W.keq_ne (knd := mixKind X.prog X.w) (r := inD ls ks) ya yb da db (by omega) (fun _ => hits_data I (by show X.A.units + 1 + 64 < cLine; omega) rb hb ra ha) ?_
  rw [l1, l2]
  exact ⟨.bl _, H, I, rfl, q⟩
end
end G9

/-! Readings step by step: fields, methods, dicts, loops and comprehensions over dicts. -/
namespace G9
open PySem PySem.Spec PyProof.Rows L2
theorem RoomG.u70 {k : Nat} {A : Around} (r : RoomG k A) : A.units + 70 < cLine := by
  have := r.r.un
  omega
theorem RoomG.hu {k : Nat} {A : Around} (r : RoomG k A) : A.units + 1 < cLine := by
  have := r.r.un
  omega
theorem fun_fi {K : PySem.W.Frag} {x q : Str} {st : Stmt} {f : Addr} {fd : FuncData} (F : Fun K x q st f fd) : PySem.W.fnIn K f = true := by
  obtain ⟨_, _, _, _, _, _, _, _, _, rfl, lk, _⟩ := F.ex
  unfold PySem.W.fnIn
  rw [lk]
section
variable {X : Cx}
def rDIn : R2 := fun y x H Q => ∃ a o, x = .ref a ∧ DGet H a y o ∧ Q (.bl o.isSome) H
def rDNin : R2 := fun y x H Q => ∃ a o, x = .ref a ∧ DGet H a y o ∧ Q (.bl (!o.isSome)) H
theorem op_dIn (hu : X.A.units + 1 < cLine) : OpR X (compareOp .In) rDIn := by
  intro pins s σ H y x u v Q I ry rx h
  obtain ⟨a, o, rfl, g, q⟩ := h
  obtain rfl : v = Value.ref a := rx
  exact d_in hu I g ry fun z J => ⟨.bl _, H, J, rfl, q⟩
theorem op_dNin (hu : X.A.units + 1 < cLine) : OpR X (compareOp .NotIn) rDNin := by
  intro pins s σ H y x u v Q I ry rx h
  obtain ⟨a, o, rfl, g, q⟩ := h
  obtain rfl : v = Value.ref a := rx
  exact d_notIn hu I g ry fun z J => ⟨.bl _, H, J, rfl, q⟩
/-- len(d), d a dict -/
def rLenD : List V → Hp → VK → Prop := fun xs H Q => ∃ (a : Addr) (kvs : List (Key × V)), xs = [V.ref a] ∧ Rd H a (.dK kvs) ∧ Q (.int kvs.length) H
theorem c_lenD : CallR X (.builtin "len") rLenD := by
  intro pins s σ H xs us Q I r h
  obtain ⟨a, kvs, rfl, ha, q⟩ := h
  obtain ⟨u, rfl, ru⟩ := vals1 r
  cases ru
  exact d_len I ha fun t s' I' => ⟨.int kvs.length, H, I', ⟨t, rfl⟩, q⟩
end
section
variable {K : PySem.W.Frag} {σ : L2.St} {H : Hp} {ta tb te : TE} {t : TA} {x y v : V} {Q : VK} {D : Ends} {a C dx d : Addr} {fs : List (Str × V)} {f m : Str} {sp : Sp} {E : XK} {kvs : List (Key × V)}
theorem l_dIn {o : Option V} (g : DGet H a y o) (q : Q (.bl o.isSome) H) : rDIn y (.ref a) H Q := ⟨a, o, rfl, g, q⟩
theorem l_dNin {o : Option V} (g : DGet H a y o) (q : Q (.bl (!o.isSome)) H) : rDNin y (.ref a) H Q := ⟨a, o, rfl, g, q⟩
theorem l_lenD (e : H a = some (.dK kvs)) (q : Q (.int kvs.length) H) : rLenD [.ref a] H Q := ⟨a, kvs, rfl, Or.inl e, q⟩
theorem l_lenR (e : Rd H a (.dK kvs)) (q : Q (.int kvs.length) H) : rLenD [.ref a] H Q := ⟨a, kvs, rfl, e, q⟩
theorem l_any {p : Addr} {bs : List Bool} (h : SqL K H p (bs.map V.bl)) (q : Q (.bl (bs.any id)) H) : rAny K [.ref p] H Q := ⟨p, bs, rfl, h, q⟩
def RFld (K : PySem.W.Frag) (f : Str) (x : V) (H : Hp) (Q : VK) : Prop := ∃ a C dx fs v, x = .ref a ∧ H a = some (.ins C dx fs) ∧ Cls K C ∧ NoAttr K C f ∧ fs.lookup f = some v ∧ Q v H
theorem s_fld (q : ta σ H fun x H1 => RFld K f x H1 Q) : tFld K ta f σ H Q := q
theorem l_fld (e : H a = some (.ins C dx fs)) (c : Cls K C) (n : NoAttr K C f) (l : fs.lookup f = some v) (q : Q v H) : RFld K f (.ref a) H Q := ⟨a, C, dx, fs, v, rfl, e, c, n, l, q⟩
def RSetF (K : PySem.W.Frag) (f : Str) (D : Ends) (σ : L2.St) (y x : V) (H : Hp) : Prop := ∃ a C dx fs, x = .ref a ∧ H a = some (.ins C dx fs) ∧ Cls K C ∧ NoAttr K C f ∧ fs.length < 1000 ∧ D.nx σ (upd H a (.ins C dx (putF f y fs)))
theorem s_setf (q : te σ H fun y H1 => ta σ H1 fun x H2 => RSetF K f D σ y x H2) : sFld K ta te f D σ H := q
theorem l_setf (e : H a = some (.ins C dx fs)) (c : Cls K C) (n : NoAttr K C f) (l : fs.length < 1000) (q : D.nx σ (upd H a (.ins C dx (putF f y fs)))) : RSetF K f D σ y (.ref a) H := ⟨a, C, dx, fs, rfl, e, c, n, l, q⟩
def ROwnM (C : Addr) (m : Str) (sp : Sp) (E : XK) (t : TA) (σ : L2.St) (x : V) (H : Hp) (Q : VK) : Prop := ∃ (a dx : Addr) (fs : List (Str × V)), x = .ref a ∧ H a = some (.ins C dx fs) ∧ fs.lookup m = none ∧ t σ H fun vs H2 => sp (.ref a :: vs) H2 Q E
theorem s_ownM (q : ta σ H fun x H1 => ROwnM C m sp E t σ x H1 Q) : tOwnM C m sp E ta t σ H Q := q
theorem l_ownM (e : H a = some (.ins C dx fs)) (l : fs.lookup m = none) (q : t σ H fun vs H2 => sp (.ref a :: vs) H2 Q E) : ROwnM C m sp E t σ (.ref a) H Q := ⟨a, dx, fs, rfl, e, l, q⟩
theorem s_ownP (q : ta σ H fun x H1 => OwnCall C sp E x [] H1 Q) : tOwnP C sp E ta σ H Q := q
theorem s_clsM (q : ta σ H fun x H1 => x = .ref C ∧ t σ H1 fun vs H2 => sp (.ref C :: vs) H2 Q E) : tClsM C sp E ta t σ H Q := q
def RDGet (x y : V) (H : Hp) (Q : VK) : Prop := ∃ a v, x = .ref a ∧ DGet H a y (some v) ∧ Q v H
theorem s_dget (q : ta σ H fun x H1 => tb σ H1 fun y H2 => RDGet x y H2 Q) : tDGet ta tb σ H Q := q
theorem l_dget (g : DGet H a y (some v)) (q : Q v H) : RDGet (.ref a) y H Q := ⟨a, v, rfl, g, q⟩
theorem l_dgetK {k : Key} (e : H a = some (.dK kvs)) (l : valV kvs k = some v) (q : Q v H) : RDGet (.ref a) (kV k) H Q := ⟨a, v, rfl, l ▸ DGet.k e, q⟩
theorem dgetF {k : Key} {o : Obj} (e : H a = some (.frz o (.dK kvs))) : DGet H a (kV k) (valV kvs k) := .inl ⟨kvs, k, .inr ⟨o, e⟩, rfl, rfl⟩
theorem s_told0 {g : Str → Bool} {i : Nat} {z : Str} (h : σ[i]? = some (some (.str z))) (q : Q (.bl (g z)) H) : tM0 (fun x xs H Q => ∃ a, x = .str a ∧ xs = [] ∧ True ∧ Q (.bl (g a)) H) (tVar i) σ H Q := ⟨_, h, ⟨z, rfl⟩, z, rfl, rfl, trivial, q⟩
/-! ### values that stay told while dicts grow and are unlocked -/
structure Bears (Pr : Hp → V → Prop) : Prop where
  same : ∀ G G' w, Same G G' → Pr G w → Pr G' w
  set : ∀ G D o o' w, G D = some o → (∀ xs, o ≠ .tup xs) → Pr G w → Pr (upd G D o') w
theorem bears_is (v : V) : Bears fun _ w => w = v := ⟨fun _ _ _ _ h => h, fun _ _ _ _ _ _ _ h => h⟩
theorem bears_tup (xs : List V) : Bears fun G w => ∃ t, w = .ref t ∧ G t = some (.tup xs) := ⟨fun G G' w s ⟨t, e, h⟩ => ⟨t, e, s _ _ h⟩, fun G D o o' w hD no ⟨t, e, h⟩ => ⟨t, e, by
  have ne : t ≠ D := fun z => by
    rw [z, hD] at h
    exact no _ (Option.some.inj h)
  rw [upd_ne ne]
  exact h⟩⟩
/-- te gives a value with Pr, leaving what is there -/
def ToW (te : TE) (τ : L2.St) (G : Hp) (Pr : Hp → V → Prop) : Prop := ∀ R : VK, (∀ v G', Same G G' → Pr G' v → R v G') → te τ G R
theorem zip_snoc {α β : Type} : ∀ {as : List α} {bs : List β} {a : α} {b : β}, as.length = bs.length → (as ++ [a]).zip (bs ++ [b]) = as.zip bs ++ [(a, b)]
  | [], [], _, _, _ => rfl
  | [], _ :: _, _, _, h => by simp at h
  | _ :: _, [], _, _, h => by simp at h
  | x :: as, y :: bs, a, b, h => by
    rw [List.cons_append, List.cons_append, List.zip_cons_cons, List.zip_cons_cons, List.cons_append, zip_snoc (by simpa using h)]
theorem valV_zip_none {ks : List Key} {ws : List V} {k : Key} (h : k ∉ ks) : valV (ks.zip ws) k = none := by
  cases e : valV (ks.zip ws) k with
  | none => rfl
  | some v =>
    have m := valV_in e
    obtain ⟨p, hp, ep⟩ := List.mem_map.mp m
    exact absurd (ep ▸ (List.of_mem_zip hp).1) h
end
section
variable {K : PySem.W.Frag} {σ : L2.St} {H : Hp} {g : TG} {tt : TT} {tk tv te : TE} {j : Nat} {Q : VK} {x : V}
def WDc (J : It) (g : TG) (tt : TT) (tk tv : TE) (vs : List Nat) (σ : L2.St) (Q : VK) (H1 : Hp) : Prop := ∀ D, H1 D = none → ∃ W : Nat → Nat → Hp → Prop, (∃ m, W 0 m (upd H1 D (.dK []))) ∧ ∀ i m H, W i m H →
  (J.stop i H ∧ Q (.ref D) H) ∨ (J.go i H ∧ ∃ Nx : Hp → Prop, (∀ H', Nx H' → ∃ m', m' < m ∧ W (i + 1) m' H') ∧ ∀ x H', J.yld i H x H' → g x (wipe σ vs) H' fun σ2 H2 => wipe σ2 vs = wipe σ vs ∧ tt σ2 H2 fun b H3 =>
    if b = true then tk σ2 H3 fun y H4 => tv σ2 H4 fun z H5 => ∃ kvs k, y = kV k ∧ H5 D = some (.dK kvs) ∧ kvs.length < sizeLine ∧ Nx (upd H5 D (.dK (putK kvs k z))) else Nx H3)
theorem wdc_of {J : It} {ks : List Key} {Gd : Hp → Prop} {Y : Nat → Hp → V → Hp → Prop} (w : Walk J ks.length Gd Y) (yld : ∀ i G x G', i < ks.length → Gd G → Y i G x G' → G' = G ∧ ∃ k, ks[i]? = some k ∧ x = kV k) (stay : ∀ G, Same H G → Gd G) (nd : ks.Nodup) (short : ks.length ≤ 1000)
    (Pr : Nat → Hp → V → Prop) (bear : ∀ i, Bears (Pr i)) (key : ∀ k ∈ ks, ∀ G, Same H G → ToV tk ((wipe σ [j]).set j (some (kV k))) G (kV k)) (val : ∀ i k G, ks[i]? = some k → Same H G → ToW tv ((wipe σ [j]).set j (some (kV k))) G (Pr i))
    (fin : ∀ D G ws, H D = none → Same H G → ws.length = ks.length → (∀ i w, ws[i]? = some w → Pr i G w) → G D = some (.dK (ks.zip ws)) → Q (.ref D) G) : WDc J (gName j) tYes tk tv [j] σ Q H := by
  intro D hD
  refine ⟨fun i m G => m = ks.length - i ∧ i ≤ ks.length ∧ ∃ ws : List V, ws.length = i ∧ Same H G ∧ G D = some (.dK ((ks.take i).zip ws)) ∧ ∀ l u, ws[l]? = some u → Pr l G u, ⟨ks.length, by omega, Nat.zero_le _, [], rfl, Same.upd0 hD, upd_same, fun l u z => by simp at z⟩, ?_⟩
  rintro i m G ⟨rfl, hi, ws, lw, sG, gD, all⟩
  by_cases hlt : i < ks.length
  · refine Or.inr ⟨w.goes i G hlt (stay G sG), fun G' => i + 1 ≤ ks.length ∧ ∃ ws : List V, ws.length = i + 1 ∧ Same H G' ∧ G' D = some (.dK ((ks.take (i + 1)).zip ws)) ∧ ∀ l u, ws[l]? = some u → Pr l G' u,
      fun G' h => ⟨ks.length - (i + 1), by omega, rfl, h⟩, fun x G' y => ?_⟩
    obtain ⟨rfl, k, hk, rfl⟩ := yld i G x G' hlt (stay G sG) (w.yields i G x G' hlt (stay G sG) y)
    refine s_name ⟨?_, ?_⟩
    · show (((σ.set j none).set j (some (kV k))).set j none) = σ.set j none
      rw [List.set_set, List.set_set]
    refine s_yes (iteT ?_)
    refine key k (List.mem_of_getElem? hk) _ sG _ fun G1 s1 => val i k G1 hk (sG.trans s1) _ fun z G2 s2 pz => ?_
    have gD2 := s2 _ _ (s1 _ _ gD)
    have lt : (ks.take i).length = i := by rw [List.length_take]; omega
    have fresh : k ∉ ks.take i := fun hm => by
      obtain ⟨l, hl, e⟩ := List.getElem_of_mem hm
      rw [lt] at hl
      rw [List.getElem_take] at e
      obtain ⟨hi2, e2⟩ := List.getElem?_eq_some_iff.mp hk
      exact List.pairwise_iff_getElem.mp nd l i (by omega) hi2 hl (e.trans e2.symm)
    have new : putK ((ks.take i).zip ws) k z = (ks.take (i + 1)).zip (ws ++ [z]) := by
      rw [putK_new z (valV_zip_none fresh), List.take_add_one, hk]
      exact (zip_snoc (by rw [lt, lw])).symm
    refine ⟨_, k, rfl, gD2, ?_, by omega, ws ++ [z], by rw [List.length_append, lw]; rfl, Same.setNew ((sG.trans s1).trans s2) hD, by rw [upd_same, new], fun l u hu => ?_⟩
    · rw [List.length_zip, lt, lw, Nat.min_self, sizeLine_eq]
      omega
    · have keep : ∀ l u, Pr l G2 u → Pr l (upd G2 D (.dK (putK ((ks.take i).zip ws) k z))) u := fun l u p => (bear l).set _ _ _ _ _ gD2 (fun _ e => by cases e) p
      by_cases hl : l < ws.length
      · rw [List.getElem?_append_left hl] at hu
        exact keep l u ((bear l).same _ _ _ (s1.trans s2) (all l u hu))
      · rw [List.getElem?_append_right (by omega)] at hu
        have e0 : l - ws.length = 0 := by
          rcases Nat.eq_zero_or_pos (l - ws.length) with h | h
          · exact h
          · rw [List.getElem?_eq_none (by rw [List.length_singleton]; omega)] at hu
            cases hu
        rw [e0] at hu
        have e1 : u = z := (Option.some.inj hu).symm
        have e2 : l = i := by omega
        rw [e1, e2]
        exact keep i z pz
  · have e : i = ks.length := by omega
    subst e
    rw [List.take_length] at gD
    exact Or.inl ⟨w.stops G (stay G sG), fin D G ws hD sG lw all gD⟩
/-- {k: v for k in a list of texts} -/
def LstDc (K : PySem.W.Frag) (g : TG) (tt : TT) (tk tv : TE) (vs : List Nat) (σ : L2.St) (Q : VK) (x : V) (H1 : Hp) : Prop := ∃ a, x = .ref a ∧ (∃ xs, SqL K H1 a xs) ∧ WDc (Itl K a) g tt tk tv vs σ Q H1
theorem s_dcL (q : te σ H fun v H1 => LstDc K g tt tk tv [j] σ Q v H1) : tDc (iList K te) g tt tk tv [j] σ H Q := q
theorem l_dcL {p : Addr} {ks : List Str} (h : SqL K H p (ks.map V.str)) (nd : ks.Nodup) (short : ks.length ≤ 1000) (Pr : Nat → Hp → V → Prop) (bear : ∀ i, Bears (Pr i)) (key : ∀ k ∈ ks, ∀ G, Same H G → ToV tk ((wipe σ [j]).set j (some (.str k))) G (.str k))
    (val : ∀ i k G, ks[i]? = some k → Same H G → ToW tv ((wipe σ [j]).set j (some (.str k))) G (Pr i))
    (fin : ∀ D G ws, H D = none → Same H G → ws.length = ks.length → (∀ i w, ws[i]? = some w → Pr i G w) → G D = some (.dK ((ks.map Sum.inr).zip ws)) → Q (.ref D) G) : LstDc K (gName j) tYes tk tv [j] σ Q (.ref p) H := by
  refine ⟨p, rfl, ⟨_, h⟩, ?_⟩
  have lm : (ks.map (Sum.inr : Str → Key)).length = ks.length := List.length_map _
  have w : Walk (Itl K p) (ks.map (Sum.inr : Str → Key)).length (fun G => SqL K G p (ks.map V.str)) (YAt (ks.map V.str)) := by
    have := walk_list (K := K) (a := p) (xs := ks.map V.str)
    rwa [List.length_map, ← lm] at this
  refine wdc_of w (fun i G x G' hi _ y => ?_) (fun G s => s.seq h) (List.pairwise_map.mpr (List.Pairwise.imp (fun n e => n (Sum.inr.inj e)) nd)) (by omega) Pr bear (fun k hk G s => ?_) (fun i k G hk s => ?_) (fun D G ws hD s l a e => fin D G ws hD s (by omega) a e)
  · obtain ⟨rfl, hx⟩ := y
    rw [List.getElem?_map] at hx
    obtain ⟨s, hs, rfl⟩ := Option.map_eq_some_iff.mp hx
    exact ⟨rfl, Sum.inr s, by rw [List.getElem?_map, hs]; rfl, rfl⟩
  · obtain ⟨s', hs', rfl⟩ := List.mem_map.mp hk
    exact key s' hs' G s
  · rw [List.getElem?_map] at hk
    obtain ⟨s', hs', rfl⟩ := Option.map_eq_some_iff.mp hk
    exact val i s' G hs' s
/-! ### a dict that is locked while it is walked -/
abbrev locked (H : Hp) (d : Addr) (od : Obj) (kvs : List (Key × V)) : Hp := upd H d (.frz od (.dK kvs))
theorem unlock {d : Addr} {kvs : List (Key × V)} {od : Obj} {G : Hp} (hd : H d = some (.dK kvs)) (s : Same (locked H d od kvs) G) : Same H (upd G d (.dK kvs)) := fun b o e => by
  by_cases hb : b = d
  · subst hb
    rw [upd_same, ← e, hd]
  · rw [upd_ne hb]
    exact s b o (by show upd H d _ b = _; rw [upd_ne hb]; exact e)
theorem at_lock {d : Addr} {kvs : List (Key × V)} {od : Obj} {G : Hp} (s : Same (locked H d od kvs) G) : G d = some (.frz od (.dK kvs)) := s _ _ upd_same
theorem lock_same {d b : Addr} {kvs : List (Key × V)} {od : Obj} {G : Hp} {o : HO} (s : Same (locked H d od kvs) G) (e : H b = some o) (n : b ≠ d) : G b = some o := s _ _ (by show upd H d _ b = _; rw [upd_ne n]; exact e)
/-- for k in d, d read only -/
theorem l_forK {D : Ends} {tbd : TS} {d : Addr} {kvs : List (Key × V)} {ti : TE} (hi : ∀ (od : Obj) (R : VK), R (.ref d) (locked H d od kvs) → ti σ (locked H d od kvs) R) (hd : H d = some (.dK kvs)) (Iv : Nat → L2.St → Prop) (h0 : Iv 0 σ)
    (turn : ∀ (od : Obj) (i : Nat) (k : Key) (v : V) (τ : L2.St) (G : Hp), kvs[i]? = some (k, v) → Iv i τ → Same (locked H d od kvs) G → ∀ R : L2.St → Hp → Prop, (∀ τ' G', Iv (i + 1) τ' → Same G G' → R τ' G') →
      g (kV k) τ G fun σ2 H2 => tbd ⟨R, fun v H' => H' d = some (.frz od (.dK kvs)) ∧ D.rt v (upd H' d (.dK kvs)), fun σ' H' => H' d = some (.frz od (.dK kvs)) ∧ D.nx σ' (upd H' d (.dK kvs)), R⟩ σ2 H2)
    (done : ∀ τ G, Iv kvs.length τ → Same H G → D.nx τ G) : tLock (tFor (iKeys ti) g tbd) D σ H := by
  refine ⟨d, .dK kvs, hd, trivial, fun od => hi od _ ⟨d, od, rfl, Or.inl ⟨kvs, upd_same, ?_⟩⟩⟩
  refine for_it walk_keys (fun i τ G => Iv i τ ∧ Same (locked H d od kvs) G) ⟨h0, Same.refl _⟩ (fun i τ G _ p => at_lock p.2) (fun i x τ G G' hi p y => ?_) (fun τ G p => ⟨at_lock p.2, done τ _ p.1 (unlock hd p.2)⟩)
  obtain ⟨rfl, k, v, hk, rfl⟩ := y
  exact turn od i k v τ _ hk p.1 p.2 _ fun τ' G' a s => ⟨a, p.2.trans s⟩
/-- {k: v for k in d}, d read only -/
theorem l_dcK {d : Addr} {kvs : List (Key × V)} {ti : TE} (hi : ∀ (od : Obj) (R : VK), R (.ref d) (locked H d od kvs) → ti σ (locked H d od kvs) R) (hd : H d = some (.dK kvs)) (nd : (kvs.map (·.1)).Nodup) (short : kvs.length ≤ 1000) (Pr : Nat → Hp → V → Prop) (bear : ∀ i, Bears (Pr i))
    (key : ∀ (od : Obj) k, k ∈ kvs.map (·.1) → ∀ G, Same (locked H d od kvs) G → ToV tk ((wipe σ [j]).set j (some (kV k))) G (kV k)) (val : ∀ (od : Obj) i k v G, kvs[i]? = some (k, v) → Same (locked H d od kvs) G → ToW tv ((wipe σ [j]).set j (some (kV k))) G (Pr i))
    (fin : ∀ D G ws, H D = none → Same H G → ws.length = kvs.length → (∀ i w, ws[i]? = some w → Pr i G w) → G D = some (.dK ((kvs.map (·.1)).zip ws)) → Q (.ref D) G) : tLockE (tDc (iKeys ti) (gName j) tYes tk tv [j]) σ H Q := by
  refine ⟨d, .dK kvs, hd, trivial, fun od => hi od _ ⟨d, od, rfl, Or.inl ⟨kvs, upd_same, ?_⟩⟩⟩
  have lm : (kvs.map (·.1)).length = kvs.length := List.length_map _
  have w : Walk (Itk d od kvs) (kvs.map (·.1)).length (fun G => G d = some (.frz od (.dK kvs))) (fun i G x G' => G' = G ∧ ∃ k v, kvs[i]? = some (k, v) ∧ x = kV k) := by
    rw [lm]
    exact walk_keys
  refine wdc_of (H := locked H d od kvs) (ks := kvs.map (·.1)) (tv := tv) (Q := fun v H' => H' d = some (.frz od (.dK kvs)) ∧ Q v (upd H' d (.dK kvs))) w (fun i G x G' hi _ y => ?_) (fun G s => at_lock s) nd (by omega) Pr bear (key od) (fun i k G hk s => ?_) (fun D G ws hD s l a e => ?_)
  · obtain ⟨rfl, k, v, hk, rfl⟩ := y
    exact ⟨rfl, k, by rw [List.getElem?_map, hk]; rfl, rfl⟩
  · rw [List.getElem?_map] at hk
    obtain ⟨⟨k', v⟩, hk', rfl⟩ := Option.map_eq_some_iff.mp hk
    exact val od i k' v G hk' s
  · have gd := at_lock s
    have hD' : upd H d (.frz od (.dK kvs)) D = none := hD
    have nD : D ≠ d := fun z => by
      rw [z, upd_same] at hD'
      cases hD'
    refine ⟨gd, fin D _ ws ?_ (unlock hd s) (by omega) (fun i u hu => (bear i).set _ _ _ _ _ gd (fun _ z => by cases z) (a i u hu)) (by rw [upd_ne nD]; exact e)⟩
    rw [upd_ne nD] at hD'
    exact hD'
end
end G9

/-! Dicts as rows of keys: tuple(d), sorted(d); comprehensions over a dict with a test. -/
namespace G9
open PySem PySem.Spec PyProof.Rows L2
/-- what raises nothing here passes -/
theorem passN {X : Cx} : Passes (L2.CX X.prog X.w) X (fun _ _ _ => False) := fun _ _ _ _ _ _ _ h => by
  obtain ⟨_, _, _, _, _, _, _, _, _, _, _, _, f⟩ := h
  exact f.elim
section
variable {X : Cx}
theorem dict_collect {A : Around} {pins : List (Addr × Obj)} {σ : L2.St} {H : Hp} {s : Shared} {a : Addr} {kvs : List (Key × V)} {R : List Value → Shared → Prop} {E : Value → Shared → Prop} (hh : A.handled = none) (I : Inv X pins σ H s) (hd : Rd H a (.dK kvs))
    (h : ∀ (h' : Heap) (tk : Nat) (us : List Value), (∀ b o, s.heap.get? b = some o → h'.get? b = some o) → Vals (kvs.map fun kv => kV kv.1) us → R us { s with heap := h', toks := tk }) : wpAny (model X.prog X.w) A (collect (.ref a)) R E s := by
  obtain ⟨z, lo, vs, rel, dd⟩ := dk_rd I.hok hd
  obtain ⟨ep, hat⟩ := dd.dictAt
  have ek : (kvs.map fun kv => kV kv.1) = vs.map fun p => kV p.1 := by
    have e := congrArg (List.map kV) rel.keys
    rw [List.map_map, List.map_map] at e
    exact e
  refine PySem.W.kdu_collect (PySem.W.kdl_dict (knd := mixKind X.prog X.w) (kvs := vs) (ep := ep) lo) hh hat (by rw [← rel.length]; exact z) fun h' tk acc hk hacc => h h' tk acc.toList hk ?_
  rw [ek]
  exact keys_at (by rw [Array.length_toList]; exact hacc.1) fun j v e => hacc.2 j v (by rw [← Array.getElem?_toList]; exact e)
def rTupleD : List V → Hp → VK → Prop := fun xs H Q => ∃ (a : Addr) (kvs : List (Key × V)), xs = [.ref a] ∧ Rd H a (.dK kvs) ∧ ∀ p, H p = none → Q (.ref p) (upd H p (.tup (kvs.map fun kv => kV kv.1)))
theorem call_tupleD (hc : X.calm = true) : CallR X (.type "tuple") rTupleD := by
  intro pins s σ H xs us Q I r h
  obtain ⟨a, kvs, rfl, hd, q⟩ := h
  obtain ⟨u, rfl, rx⟩ := vals1 r
  obtain rfl : u = Value.ref a := rx
  obtain ⟨z, lo, vs, rel, dd⟩ := dk_rd I.hok hd
  obtain ⟨o, es, ep, ho, ⟨hcl, _⟩, _⟩ := id dd
  have hTI : s.TypeIs (.ref a) "dict" := ⟨o, ho, hcl⟩
  refine callType_codes (Q₁ := fun obj s₁ => s₁.TypeIs obj "tuple" ∧ EP X pins σ Q obj s₁) F.called_tuple (F.typeCall_tuple_1 _) F.entry_object_init ?_ fun obj s₁ h₁ => ?_
  · refine codeAny_of_tree ?_
    show wpAny _ X.A.in1.in1 (do checkBuiltinCall "tuple.__new__" ⟨[.type "tuple", .ref a], []⟩; again (.builtin "tuple.__new__" ⟨[.type "tuple", .ref a], []⟩)) _ _ s
    refine wpAny_bind (wpAny_of_eq (F.newCall_tuple_1 _) (wpAny_pure ⟨plainId_quiet F.plain_tuple_new _, codeAny_builtin F.entry_tuple_new ?_⟩))
    rw [Around.under_plainId F.plain_tuple_new _]
    have hsub := sub_tuple_self
    have hinit := init_tuple_lookup
    have hmh := madeHere_tuple
    have hh1 : X.A.in1.in1.handled = none := I.ok.hd hc
    wp_walk using wpAny_typeOf hTI, dict_collect (A := X.A.in1.in1) hh1 I hd
    intro h' tk us hk rv
    show wpAny _ _ (Builtin.Tuple.tupleExact us.toArray >>= fun v => ret v) _ _ _
    unfold Builtin.Tuple.tupleExact
    have lu : us.length = kvs.length := by rw [← rv.length, List.length_map]
    refine wpAny_bind (wpAny_newObj_type ?_ (by show us.toArray.size ≤ sizeLine; rw [List.size_toArray, lu]; exact z))
    refine wpAny_pure ?_
    have I2 : Inv X pins σ H { s with heap := h', toks := tk } := I.kept hk
    refine ⟨⟨_, Heap.get?_push_size _ rfl, rfl⟩, .ref h'.objs.size, upd H h'.objs.size (.tup (kvs.map fun kv => kV kv.1)), I2.laid (t' := tk) (fun c o e => Heap.get?_push_of_some _ e) (Nat.le_refl _) (show ObjOk X.prog X.w _ _ _ (.tup _) from ⟨?_, us, rv, ?_⟩), rfl, q _ (I2.hok.fresh (Nat.le_refl _))⟩
    · rw [List.length_map]; exact z
    · exact IsTup.new _ _
  · exact ⟨h₁.1, F.args_object_init_2 obj _, object_init_meets F.called_tuple.init.lookup F.called_tuple.made (by decide) X.prog X.w X.A.in1 _ s₁ ⟨h₁.1, rfl, h₁.2⟩⟩
end
end G9

/-! sorted(d); comprehensions over a dict with a test; texts in order, chosen. -/
namespace G9
open PySem PySem.Spec PyProof.Rows L2
section
variable {X : Cx}
/-- sorted(d), d a dict of texts -/
def rSortedD : List V → Hp → VK → Prop := fun vs H Q => ∃ (a : Addr) (kvs : List (Key × V)) (xs : List Str), vs = [V.ref a] ∧ Rd H a (.dK kvs) ∧ kvs.map (·.1) = xs.map Sum.inr ∧ xs.length < 64 ∧
  ∀ (ys : List Str) (p : Addr), ys.Perm xs → sortedS ys = true → H p = none → Q (.ref p) (upd H p (.lst (ys.map V.str)))
theorem call_sortedK (hc : X.calm = true) : CallR X (.builtin "sorted") rSortedD := by
  intro pins s σ H vs us Q I r h
  obtain ⟨a, kvs, xs, rfl, hd, ek, h64, q⟩ := h
  obtain ⟨u, rfl, rx⟩ := vals1 r
  obtain rfl : u = Value.ref a := rx
  have ev : (kvs.map fun kv => kV kv.1) = xs.map V.str := by
    have e := congrArg (List.map kV) ek
    rw [List.map_map, List.map_map] at e
    exact e
  refine Calls.call_function_entry PyProof.Rows.kind_sorted PyProof.Rows.plain_sorted PyProof.Rows.entry_sorted (PyProof.Rows.args_sorted1 _) ?_
  unfold Builtin.«sorted»
  refine wpAny_bind (m := checkCount "sorted" 1 1 _) (wpAny_pure ?_)
  refine wpAny_bind (dict_collect (A := X.A.in1) (I.ok.hd hc) I hd fun h' tk its hk rv => ?_)
  rw [ev] at rv
  have hlen := rv.length
  rw [List.length_map] at hlen
  have hS : StrsAre its xs := rv.strs
  have I1 : Inv X pins σ H { s with heap := h', toks := tk } := I.kept (t' := tk) hk
  refine wpAny_bind (wpAny_newList ?_ (by rw [← hlen, sizeLine_eq]; omega))
  have hoL : (h'.push (seqObj "list" its.toArray 0)).get? h'.objs.size = some (seqObj "list" its.toArray 0) := Heap.get?_push_size _ rfl
  show wpAny _ _ _ _ _ { s with heap := h'.push (seqObj "list" its.toArray 0), toks := tk }
  refine wpAny_bind (wpAny_holding (wpAny_call_entry PyProof.Rows.slot_list_sort ⟨_, hoL, rfl⟩ PyProof.Rows.entry_list_sort
    (list_sort_treeK strKind_oneLt (s := { s with heap := h'.push (seqObj "list" its.toArray 0), toks := tk }) hoL hS.keysOf (fun v₁ v₂ rest e => keyKind_strs (by rw [← e]; exact hS)) (by rw [← hlen]; exact h64) fun st' hp hs => ⟨_, rfl, ?_⟩) (PyProof.Rows.args_list_sort _)))
  obtain ⟨ys, g1, g2, g3⟩ := sorted_out_str hS hp hs
  obtain ⟨e', he'⟩ := PyProof.Rows.sortedHeap_at (vs := its) (out := (arrOf st').map (·.2)) hoL
  have lz : (ys.map V.str).length ≤ sizeLine := by
    rw [List.length_map, g2.length_eq, sizeLine_eq]
    omega
  have mine : ObjOk X.prog X.w (upd H h'.objs.size (.lst (ys.map V.str))) (PyProof.Rows.sortedHeap (h'.push (seqObj "list" its.toArray 0)) h'.objs.size its ((arrOf st').map (·.2))) h'.objs.size (.lst (ys.map V.str)) :=
    ⟨lz, ((arrOf st').map (·.2)).toList, e', vals_of_strs g1, by rw [Array.toArray_toList]; exact he'⟩
  refine wpAny_pure ⟨_, rfl, .ref h'.objs.size, upd H h'.objs.size (.lst (ys.map V.str)), I1.laid (t' := tk) (fun b u e => ?_) (Nat.le_refl _) mine, rfl, q ys _ g2 g3 (I1.hok.fresh (Nat.le_refl _))⟩
  have hb : b < h'.objs.size := Heap.lt_size e
  rw [PyProof.Rows.sortedHeap_old (Nat.ne_of_lt hb) (by rw [size_push']; exact Nat.lt_succ_of_lt hb)]
  exact Heap.get?_push_of_some _ e
end
/-! ### texts in order, chosen -/
def leB (x y : Str) : Bool := decide (leS x y)
def sortS (l : List Str) : List Str := l.mergeSort leB
theorem leS_trans {x y z : Str} (a : leS x y) (b : leS y z) : leS x z := by
  rcases leS_iff.mp a with a | rfl
  · rcases leS_iff.mp b with b | rfl
    · exact leS_iff.mpr (Or.inl (ltS_trans a b))
    · exact leS_iff.mpr (Or.inl a)
  · exact b
theorem leS_total (x y : Str) : leS x y ∨ leS y x := by
  by_cases h : leS x y
  · exact Or.inl h
  · refine Or.inr (leS_iff.mpr (Or.inl ?_))
    show ltCps y.cps.toList x.cps.toList = true
    cases q : ltCps y.cps.toList x.cps.toList with
    | true => rfl
    | false => exact absurd (show leS x y from q) h
theorem leS_anti {x y : Str} (a : leS x y) (b : leS y x) : x = y := by
  rcases leS_iff.mp a with a | e
  · rcases leS_iff.mp b with b | e
    · exact absurd (ltS_trans a b) (ltS_irrefl x)
    · exact e.symm
  · exact e
theorem sortS_perm (l : List Str) : (sortS l).Perm l := List.mergeSort_perm l leB
theorem sortS_le (l : List Str) : (sortS l).Pairwise leS := by
  have h := List.pairwise_mergeSort (le := leB) (fun a b c x y => decide_eq_true (leS_trans (of_decide_eq_true x) (of_decide_eq_true y))) (fun a b => by
    rcases leS_total a b with h | h
    · show (leB a b || leB b a) = true
      rw [show leB a b = true from decide_eq_true h, Bool.true_or]
    · show (leB a b || leB b a) = true
      rw [show leB b a = true from decide_eq_true h, Bool.or_true]) l
  exact List.Pairwise.imp (fun z => of_decide_eq_true z) h
theorem le_unique : ∀ {l m : List Str}, l.Pairwise leS → m.Pairwise leS → l.Perm m → l = m
  | [], m, _, _, p => (List.nil_perm.mp p).symm
  | x :: r, [], _, _, p => absurd p.length_eq (by simp)
  | x :: r, y :: t, a, b, p => by
    have a1 := List.pairwise_cons.mp a
    have b1 := List.pairwise_cons.mp b
    have e : x = y := by
      have hx : x ∈ y :: t := p.mem_iff.mp List.mem_cons_self
      have hy : y ∈ x :: r := p.mem_iff.mpr List.mem_cons_self
      rcases List.mem_cons.mp hx with h | h
      · exact h
      · rcases List.mem_cons.mp hy with h' | h'
        · exact h'.symm
        · exact leS_anti (a1.1 y h') (b1.1 x h)
    subst e
    rw [le_unique a1.2 b1.2 (List.Perm.cons_inv p)]
theorem sortS_of {xs ys : List Str} (p : ys.Perm xs) (s : sortedS ys = true) : ys = sortS xs := le_unique (sortedS_iff.mp s) (sortS_le xs) (p.trans (sortS_perm xs).symm)
theorem sortS_asc {xs : List Str} (nd : xs.Nodup) : Asc (sortS xs) := asc_of (sortedS_iff.mpr (sortS_le xs)) ((sortS_perm xs).nodup_iff.mpr nd)
theorem sortS_id {xs : List Str} (a : Asc xs) : sortS xs = xs := le_unique (sortS_le xs) (a.imp fun h => leS_iff.mpr (Or.inl h)) (sortS_perm xs)
theorem sortS_congr {xs ys : List Str} (p : xs.Perm ys) : sortS xs = sortS ys := le_unique (sortS_le xs) (sortS_le ys) ((sortS_perm xs).trans (p.trans (sortS_perm ys).symm))
section
variable {K : PySem.W.Frag} {σ : L2.St} {H : Hp} {Q : VK} {p : Addr} {t : TT} {te tk tv : TE} {j : Nat}
def rSortL (K : PySem.W.Frag) (v : V) (H : Hp) (Q : VK) : Prop := rSortedS K [v] H Q
theorem l_sortL {a : Addr} {xs : List Str} (h : SqL K H a (xs.map V.str)) (h64 : xs.length < 64) (q : ∀ p G, H p = none → Same H G → G p = some (.lst ((sortS xs).map V.str)) → Q (.ref p) G) : rSortedS K [.ref a] H Q :=
  ⟨a, xs, rfl, h, h64, fun ys p g2 g3 n => q p _ n (same0 n) (by rw [upd_same, sortS_of g2 g3])⟩
theorem l_sortT {a : Addr} {xs : List Str} (h : SqT K H a (xs.map V.str)) (h64 : xs.length < 64) (q : ∀ p G, H p = none → Same H G → G p = some (.lst ((sortS xs).map V.str)) → Q (.ref p) G) : rSortedT K [.ref a] H Q :=
  ⟨a, xs, rfl, h, h64, fun ys p g2 g3 n => q p _ n (same0 n) (by rw [upd_same, sortS_of g2 g3])⟩
theorem l_sortD {a : Addr} {kvs : List (Key × V)} {xs : List Str} (h : Rd H a (.dK kvs)) (e : kvs.map (·.1) = xs.map Sum.inr) (h64 : xs.length < 64) (q : ∀ p G, H p = none → Same H G → G p = some (.lst ((sortS xs).map V.str)) → Q (.ref p) G) : rSortedD [.ref a] H Q :=
  ⟨a, kvs, xs, rfl, h, e, h64, fun ys p g2 g3 n => q p _ n (same0 n) (by rw [upd_same, sortS_of g2 g3])⟩
theorem l_tupleD {a : Addr} {kvs : List (Key × V)} (h : Rd H a (.dK kvs)) (q : ∀ p G, H p = none → Same H G → G p = some (.tup (kvs.map fun kv => kV kv.1)) → Q (.ref p) G) : rTupleD [.ref a] H Q :=
  ⟨a, kvs, rfl, h, fun p n => q p _ n (same0 n) upd_same⟩
/-- [.. for k in d if ..], d read only -/
theorem s_lcK {ti : TE} (q : tLockE (tLc (iKeys ti) (gName j) t te [j]) σ H Q) : tLockE (tLc (iKeys ti) (gName j) t te [j]) σ H Q := q
theorem l_lcK {d : Addr} {kvs : List (Key × V)} {ti : TE} (hi : ∀ (od : Obj) (R : VK), R (.ref d) (locked H d od kvs) → ti σ (locked H d od kvs) R) (hd : H d = some (.dK kvs)) (keep : V → Bool) (f : V → V) (short : kvs.length ≤ 1000)
    (test : ∀ (od : Obj) k, k ∈ kvs.map (·.1) → ∀ G, Same (locked H d od kvs) G → ToB t ((wipe σ [j]).set j (some (kV k))) G (keep (kV k)))
    (val : ∀ (od : Obj) k, k ∈ kvs.map (·.1) → keep (kV k) = true → ∀ G, Same (locked H d od kvs) G → ToV te ((wipe σ [j]).set j (some (kV k))) G (f (kV k)))
    (fin : ∀ D G, H D = none → Same H G → G D = some (.lst (((kvs.map fun p => kV p.1).filter keep).map f)) → Q (.ref D) G) : tLockE (tLc (iKeys ti) (gName j) t te [j]) σ H Q := by
  refine ⟨d, .dK kvs, hd, trivial, fun od => hi od _ ⟨d, od, rfl, Or.inl ⟨kvs, upd_same, ?_⟩⟩⟩
  have lm : (kvs.map fun p => kV p.1).length = kvs.length := List.length_map _
  have w : Walk (Itk d od kvs) (kvs.map fun p => kV p.1).length (fun G => G d = some (.frz od (.dK kvs))) (YAt (kvs.map fun p => kV p.1)) := by
    rw [lm]
    refine walk_keys.mono (fun _ h => h) fun i H x H' hi _ y => ?_
    obtain ⟨rfl, k, v, hk, rfl⟩ := y
    refine ⟨rfl, ?_⟩
    rw [List.getElem?_map, hk]
    rfl
  have back : ∀ x ∈ kvs.map (fun p => kV p.1), ∃ k, k ∈ kvs.map (·.1) ∧ x = kV k := fun x hx => by
    obtain ⟨pp, hp, rfl⟩ := List.mem_map.mp hx
    exact ⟨pp.1, List.mem_map_of_mem hp, rfl⟩
  refine wlc_of (H := locked H d od kvs) (te := te) (t := t) (Q := fun v H' => H' d = some (.frz od (.dK kvs)) ∧ Q v (upd H' d (.dK kvs))) w (fun G s => at_lock s) keep f (by omega) (fun x hx G s => ?_) (fun x hx kp G s => ?_) (fun D G hD s e => ?_)
  · obtain ⟨k, hk, rfl⟩ := back x hx
    exact test od k hk G s
  · obtain ⟨k, hk, rfl⟩ := back x hx
    exact val od k hk kp G s
  · have gd := at_lock s
    have hD' : upd H d (.frz od (.dK kvs)) D = none := hD
    have nD : D ≠ d := fun z => by
      rw [z, upd_same] at hD'
      cases hD'
    refine ⟨gd, fin D _ ?_ (unlock hd s) (by rw [upd_ne nD]; exact e)⟩
    rw [upd_ne nD] at hD'
    exact hD'
end
end G9

/-! Comprehensions that make dicts, with a test; each value told by its key. -/
namespace G9
open PySem PySem.Spec PyProof.Rows L2
/-- rows of a dict with told values -/
def Ents (Pr : Key → Hp → V → Prop) (G : Hp) : List Key → List (Key × V) → Prop := Paired fun k w => k = w.1 ∧ Pr k G w.2
theorem Ents.keys {Pr : Key → Hp → V → Prop} {G : Hp} {ks : List Key} {ws : List (Key × V)} (h : Ents Pr G ks ws) : ws.map (·.1) = ks := by
  unfold Ents at h
  induction h with
  | nil => rfl
  | cons a _ ih => rw [List.map_cons, ih, ← a.1]
theorem Ents.mono {Pr : Key → Hp → V → Prop} {G G' : Hp} {ks : List Key} {ws : List (Key × V)} (h : Ents Pr G ks ws) (m : ∀ k v, Pr k G v → Pr k G' v) : Ents Pr G' ks ws := Paired.mono (fun k w a => ⟨a.1, m k _ a.2⟩) h
theorem paired_of_map {α β γ : Type} {F : β → γ → Prop} {f : α → β} : ∀ {l : List α} {ws : List γ}, Paired F (l.map f) ws → Paired (fun a b => F (f a) b) l ws
  | [], [], _ => .nil
  | [], _ :: _, h => nomatch h
  | _ :: _, [], h => nomatch h
  | _ :: _, _ :: _, .cons a t => .cons a (paired_of_map t)
section
variable {K : PySem.W.Frag} {σ : L2.St} {H : Hp} {g : TG} {tt : TT} {tk tv te : TE} {j : Nat} {Q : VK} {x : V}
theorem wdc_p {J : It} {ks : List Key} {Gd : Hp → Prop} {Y : Nat → Hp → V → Hp → Prop} (w : Walk J ks.length Gd Y) (yld : ∀ i G x G', i < ks.length → Gd G → Y i G x G' → G' = G ∧ ∃ k, ks[i]? = some k ∧ x = kV k) (stay : ∀ G, Same H G → Gd G) (nd : ks.Nodup) (short : ks.length ≤ 1000)
    (keep : Key → Bool) (Pr : Key → Hp → V → Prop) (bear : ∀ k, Bears (Pr k)) (test : ∀ k ∈ ks, ∀ G, Same H G → ToB tt ((wipe σ [j]).set j (some (kV k))) G (keep k))
    (key : ∀ k ∈ ks, keep k = true → ∀ G, Same H G → ToV tk ((wipe σ [j]).set j (some (kV k))) G (kV k)) (val : ∀ k ∈ ks, keep k = true → ∀ G, Same H G → ToW tv ((wipe σ [j]).set j (some (kV k))) G (Pr k))
    (fin : ∀ D G ws, H D = none → Same H G → Ents Pr G (ks.filter keep) ws → G D = some (.dK ws) → Q (.ref D) G) : WDc J (gName j) tt tk tv [j] σ Q H := by
  intro D hD
  refine ⟨fun i m G => m = ks.length - i ∧ i ≤ ks.length ∧ ∃ ws : List (Key × V), Same H G ∧ G D = some (.dK ws) ∧ Ents Pr G ((ks.take i).filter keep) ws, ⟨ks.length, by omega, Nat.zero_le _, [], Same.upd0 hD, upd_same, by rw [List.take_zero]; exact .nil⟩, ?_⟩
  rintro i m G ⟨rfl, hi, ws, sG, gD, all⟩
  by_cases hlt : i < ks.length
  · refine Or.inr ⟨w.goes i G hlt (stay G sG), fun G' => i + 1 ≤ ks.length ∧ ∃ ws : List (Key × V), Same H G' ∧ G' D = some (.dK ws) ∧ Ents Pr G' ((ks.take (i + 1)).filter keep) ws,
      fun G' h => ⟨ks.length - (i + 1), by omega, rfl, h⟩, fun x G' y => ?_⟩
    obtain ⟨rfl, k, hk, rfl⟩ := yld i G x G' hlt (stay G sG) (w.yields i G x G' hlt (stay G sG) y)
    have mem := List.mem_of_getElem? hk
    have tk1 : ks.take (i + 1) = ks.take i ++ [k] := by
      rw [List.take_add_one, hk]
      rfl
    refine s_name ⟨?_, ?_⟩
    · show (((σ.set j none).set j (some (kV k))).set j none) = σ.set j none
      rw [List.set_set, List.set_set]
    refine test k mem _ sG _ fun G0 s0 => ?_
    cases hkp : keep k with
    | false =>
      refine i_f rfl ⟨by omega, ws, sG.trans s0, s0 _ _ gD, ?_⟩
      rw [tk1, List.filter_append, List.filter_cons, if_neg (by rw [hkp]; exact Bool.false_ne_true), List.filter_nil, List.append_nil]
      exact all.mono fun k v p => (bear k).same _ _ _ s0 p
    | true =>
      refine i_t rfl ?_
      refine key k mem hkp _ (sG.trans s0) _ fun G1 s1 => val k mem hkp _ ((sG.trans s0).trans s1) _ fun z G2 s2 pz => ?_
      have s02 := (s0.trans s1).trans s2
      have gD2 := s02 _ _ gD
      have lt : (ks.take i).length = i := by rw [List.length_take]; omega
      have fresh : k ∉ (ks.take i).filter keep := fun hm => by
        have hm := (List.mem_filter.mp hm).1
        obtain ⟨l, hl, e⟩ := List.getElem_of_mem hm
        rw [lt] at hl
        rw [List.getElem_take] at e
        obtain ⟨hi2, e2⟩ := List.getElem?_eq_some_iff.mp hk
        exact List.pairwise_iff_getElem.mp nd l i (by omega) hi2 hl (e.trans e2.symm)
      have new : putK ws k z = ws ++ [(k, z)] := by
        refine putK_new z ?_
        cases e : valV ws k with
        | none => rfl
        | some v =>
          have m := valV_in e
          rw [all.keys] at m
          exact absurd m fresh
      have keepP : ∀ (k' : Key) u, Pr k' G2 u → Pr k' (upd G2 D (.dK (putK ws k z))) u := fun k' u p => (bear k').set _ _ _ _ _ gD2 (fun _ e => by cases e) p
      refine ⟨_, k, rfl, gD2, ?_, by omega, putK ws k z, Same.setNew (sG.trans s02) hD, upd_same, ?_⟩
      · have hl := all.keys
        have hl : ws.length = ((ks.take i).filter keep).length := by rw [← hl, List.length_map]
        have := List.length_filter_le keep (ks.take i)
        rw [hl, sizeLine_eq]
        omega
      · rw [tk1, List.filter_append, List.filter_cons, if_pos hkp, List.filter_nil]
        have done : Ents Pr (upd G2 D (.dK (putK ws k z))) ((ks.take i).filter keep) ws := (all.mono fun k' u p => keepP k' u ((bear k').same _ _ _ s02 p))
        rw [show (upd G2 D (.dK (putK ws k z))) = (upd G2 D (.dK (putK ws k z))) from rfl]
        have fin2 := Paired.snoc done (a := k) (b := (k, z)) ⟨rfl, keepP k z pz⟩
        rw [← new] at fin2
        exact fin2
  · have e : i = ks.length := by omega
    subst e
    rw [List.take_length] at all
    exact Or.inl ⟨w.stops G (stay G sG), fin D G ws hD sG all gD⟩
/-- over a list of texts -/
theorem s_dcLp {vs : List Nat} (q : te σ H fun v H1 => LstDc K g tt tk tv vs σ Q v H1) : tDc (iList K te) g tt tk tv vs σ H Q := q
theorem l_dcLp {p : Addr} {ks : List Str} (h : SqL K H p (ks.map V.str)) (nd : ks.Nodup) (short : ks.length ≤ 1000) (keep : Str → Bool) (Pr : Str → Hp → V → Prop) (bear : ∀ k, Bears (Pr k)) (test : ∀ k ∈ ks, ∀ G, Same H G → ToB tt ((wipe σ [j]).set j (some (.str k))) G (keep k))
    (key : ∀ k ∈ ks, keep k = true → ∀ G, Same H G → ToV tk ((wipe σ [j]).set j (some (.str k))) G (.str k)) (val : ∀ k ∈ ks, keep k = true → ∀ G, Same H G → ToW tv ((wipe σ [j]).set j (some (.str k))) G (Pr k))
    (fin : ∀ D G ws, H D = none → Same H G → Paired (fun k w => w.1 = Sum.inr k ∧ Pr k G w.2) (ks.filter keep) ws → G D = some (.dK ws) → Q (.ref D) G) : LstDc K (gName j) tt tk tv [j] σ Q (.ref p) H := by
  refine ⟨p, rfl, ⟨_, h⟩, ?_⟩
  have lm : (ks.map (Sum.inr : Str → Key)).length = ks.length := List.length_map _
  have w : Walk (Itl K p) (ks.map (Sum.inr : Str → Key)).length (fun G => SqL K G p (ks.map V.str)) (YAt (ks.map V.str)) := by
    have := walk_list (K := K) (a := p) (xs := ks.map V.str)
    rwa [List.length_map, ← lm] at this
  have strOf : ∀ k ∈ ks.map (Sum.inr : Str → Key), ∃ s, s ∈ ks ∧ k = Sum.inr s := fun k hk => by
    obtain ⟨s, hs, rfl⟩ := List.mem_map.mp hk
    exact ⟨s, hs, rfl⟩
  refine wdc_p w (fun i G x G' hi _ y => ?_) (fun G s => s.seq h) (List.pairwise_map.mpr (List.Pairwise.imp (fun n e => n (Sum.inr.inj e)) nd)) (by omega) (fun k => match k with | .inr s => keep s | .inl _ => false) (fun k => match k with | .inr s => Pr s | .inl _ => fun _ _ => True)
    (fun k => ?_) (fun k hk G s => ?_) (fun k hk kp G s => ?_) (fun k hk kp G s => ?_) (fun D G ws hD s en e => fin D G ws hD s ?_ e)
  · obtain ⟨rfl, hx⟩ := y
    rw [List.getElem?_map] at hx
    obtain ⟨s, hs, rfl⟩ := Option.map_eq_some_iff.mp hx
    exact ⟨rfl, Sum.inr s, by rw [List.getElem?_map, hs]; rfl, rfl⟩
  · cases k with
    | inl i => exact ⟨fun _ _ _ _ _ => trivial, fun _ _ _ _ _ _ _ _ => trivial⟩
    | inr s => exact bear s
  · obtain ⟨s', hs', rfl⟩ := strOf k hk
    exact test s' hs' G s
  · obtain ⟨s', hs', rfl⟩ := strOf k hk
    exact key s' hs' kp G s
  · obtain ⟨s', hs', rfl⟩ := strOf k hk
    exact val s' hs' kp G s
  · rw [List.filter_map] at en
    exact Paired.mono (fun k w a => ⟨a.1.symm, a.2⟩) (paired_of_map en)
/-- over a dict, read only -/
theorem l_dcKp {d : Addr} {kvs : List (Key × V)} {ti : TE} (hi : ∀ (od : Obj) (R : VK), R (.ref d) (locked H d od kvs) → ti σ (locked H d od kvs) R) (hd : H d = some (.dK kvs)) (nd : (kvs.map (·.1)).Nodup) (short : kvs.length ≤ 1000) (keep : Key → Bool) (Pr : Key → Hp → V → Prop) (bear : ∀ k, Bears (Pr k))
    (test : ∀ (od : Obj), ∀ k ∈ kvs.map (·.1), ∀ G, Same (locked H d od kvs) G → ToB tt ((wipe σ [j]).set j (some (kV k))) G (keep k))
    (key : ∀ (od : Obj), ∀ k ∈ kvs.map (·.1), keep k = true → ∀ G, Same (locked H d od kvs) G → ToV tk ((wipe σ [j]).set j (some (kV k))) G (kV k))
    (val : ∀ (od : Obj), ∀ k ∈ kvs.map (·.1), keep k = true → ∀ G, Same (locked H d od kvs) G → ToW tv ((wipe σ [j]).set j (some (kV k))) G (Pr k))
    (fin : ∀ D G ws, H D = none → Same H G → Ents Pr G ((kvs.map (·.1)).filter keep) ws → G D = some (.dK ws) → Q (.ref D) G) : tLockE (tDc (iKeys ti) (gName j) tt tk tv [j]) σ H Q := by
  refine ⟨d, .dK kvs, hd, trivial, fun od => hi od _ ⟨d, od, rfl, Or.inl ⟨kvs, upd_same, ?_⟩⟩⟩
  have lm : (kvs.map (·.1)).length = kvs.length := List.length_map _
  have w : Walk (Itk d od kvs) (kvs.map (·.1)).length (fun G => G d = some (.frz od (.dK kvs))) (fun i G x G' => G' = G ∧ ∃ k v, kvs[i]? = some (k, v) ∧ x = kV k) := by
    rw [lm]
    exact walk_keys
  refine wdc_p (H := locked H d od kvs) (ks := kvs.map (·.1)) (tv := tv) (tt := tt) (Q := fun v H' => H' d = some (.frz od (.dK kvs)) ∧ Q v (upd H' d (.dK kvs))) w (fun i G x G' hi _ y => ?_) (fun G s => at_lock s) nd (by omega) keep Pr bear (test od) (key od) (val od) (fun D G ws hD s en e => ?_)
  · obtain ⟨rfl, k, v, hk, rfl⟩ := y
    exact ⟨rfl, k, by rw [List.getElem?_map, hk]; rfl, rfl⟩
  · have gd := at_lock s
    have hD' : upd H d (.frz od (.dK kvs)) D = none := hD
    have nD : D ≠ d := fun z => by
      rw [z, upd_same] at hD'
      cases hD'
    refine ⟨gd, fin D _ ws ?_ (unlock hd s) (en.mono fun k u p => (bear k).set _ _ _ _ _ gd (fun _ z => by cases z) p) (by rw [upd_ne nD]; exact e)⟩
    rw [upd_ne nD] at hD'
    exact hD'
end
end G9

/-! Small readings: kinds, texts in order, tuples. -/
namespace G9
open PySem PySem.Spec PyProof.Rows L2
theorem TyX_same {K : PySem.W.Frag} {H G : Hp} {x : V} {t : Value} (s : Same H G) (h : TyX K H x t) : TyX K G x t := by
  cases h with
  | base b =>
    cases b with
    | non => exact .base .non
    | bl b => exact .base (.bl b)
    | int i => exact .base (.int i)
    | str i => exact .base (.str i)
    | flt i => exact .base (.flt i)
    | lst e => exact .base (.lst (s _ _ e))
    | frz e => exact .base (.frz (s _ _ e))
    | tup e => exact .base (.tup (s _ _ e))
    | dK e => exact .base (.dK (s _ _ e))
    | dT e => exact .base (.dT (s _ _ e))
    | ins e c ha hn ht hm => exact .base (.ins (s _ _ e) c ha hn ht hm)
  | byt b => exact .byt b
  | set e => exact .set (s _ _ e)
  | kList e c => exact .kList e c
  | kTuple e c => exact .kTuple e c
  | kDict e c => exact .kDict e c
  | fTuple e => exact .fTuple (s _ _ e)
  | fDict e => exact .fDict (s _ _ e)
theorem NotStr.same {K : PySem.W.Frag} {H G : Hp} {x : V} (s : Same H G) (h : NotStr K H x) : NotStr K G x := by
  obtain ⟨t, ty, k⟩ := h
  exact ⟨t, TyX_same s ty, k⟩
theorem NotStr.no {K : PySem.W.Frag} {H : Hp} {s : Str} (h : NotStr K H (.str s)) : False := by
  obtain ⟨t, ty, kk⟩ := h
  cases ty with
  | base b =>
    cases b
    have k2 : PySem.W.kitOne K (.type "str") (.type "str") = some true := kit_ty (by decide +kernel)
    rw [k2] at kk
    cases kk
section
variable {K : PySem.W.Frag} {σ : L2.St} {H : Hp} {Q : VK} {x y v : V} {p : Addr} {xs : List V}
theorem l_isi {T U : String} {b : Bool} (ty : TyX K H x (.type T)) (k : PySem.W.kitOne K (.type T) (.type U) = some b) (q : Q (.bl b) H) : rIsi K [x, .ty U] H Q := ⟨_, _, _, _, b, rfl, .ty U, ty, k, q⟩
theorem tup_at (e : H p = some (.tup xs)) : SqT K H p xs := Or.inl (Or.inl e)
theorem l_isTup (e : H p = some (.tup xs)) (q : Q (.bl true) H) : rIsi K [.ref p, .ty "tuple"] H Q := l_isi (.base (.tup e)) (kit_ty (by decide +kernel)) q
theorem l_isDict {kvs : List (Key × V)} (e : H p = some (.dK kvs)) (q : Q (.bl true) H) : rIsi K [.ref p, .ty "dict"] H Q := l_isi (.base (.dK e)) (kit_ty (by decide +kernel)) q
theorem l_isInt {i : Int} (q : Q (.bl true) H) : rIsi K [.int i, .ty "int"] H Q := l_isi (.base (.int i)) (kit_ty (by decide +kernel)) q
theorem l_intBool {i : Int} (q : Q (.bl false) H) : rIsi K [.int i, .ty "bool"] H Q := l_isi (.base (.int i)) (kit_ty (by decide +kernel)) q
theorem ltC_lt : ∀ {a b : List Nat}, a < b ↔ ltCps a b = true
  | [], [] => ⟨fun h => absurd h (List.not_lt_nil _), fun h => absurd h (by decide)⟩
  | [], _ :: _ => ⟨fun _ => rfl, fun _ => List.nil_lt_cons _ _⟩
  | _ :: _, [] => ⟨fun h => absurd h (List.not_lt_nil _), fun h => absurd h (by simp [ltCps])⟩
  | a :: r, b :: t => by rw [ltC_cons, List.cons_lt_cons_iff, ltC_lt]
theorem dec_lt {x y : Str} : decide (x.cps.toList < y.cps.toList) = decide (ltS x y) := by
  by_cases h : ltS x y
  · rw [decide_eq_true h, decide_eq_true (ltC_lt.mpr h)]
  · rw [decide_eq_false h, decide_eq_false (fun z => h (ltC_lt.mp z))]
theorem l_leS2 {Q : VK} {y z : Str} (q : Q (.bl (!decide (ltS z y))) H) : rLeStr (.str y) (.str z) H Q := l_leS (by rw [dec_lt]; exact q)
theorem l_cmp {i j : Int} {f : Int → Int → V} (q : Q (f i j) H) : rI0 f (.int i) (.int j) H Q := l_I0 q
def rTupleOf (K : PySem.W.Frag) : List V → Hp → VK → Prop := fun xs H Q => ∃ p ys, xs = [.ref p] ∧ ((SqL K H p ys ∧ ∀ l, H l = none → Q (.ref l) (upd H l (.tup ys))) ∨ (SqT K H p ys ∧ Q (.ref p) H))
theorem c_tuple {X : Cx} : CallR X (.type "tuple") (rTupleOf X.K) := call_tuple_of
theorem l_tupL {a : Addr} (h : SqL K H a xs) (q : ∀ p G, H p = none → Same H G → G p = some (.tup xs) → Q (.ref p) G) : rTupleOf K [.ref a] H Q :=
  ⟨a, xs, rfl, Or.inl ⟨h, fun l n => q l _ n (same0 n) upd_same⟩⟩
theorem l_inR {l : List Str} {s : Str} (h : SqT K H p (l.map V.str)) (q : Q (.bl (decide (s ∈ l))) H) : rIn K false (.str s) (.ref p) H Q := by
  refine ⟨p, _, rfl, Or.inr h, rfl, ?_, ?_⟩
  · rw [List.all_map, List.all_eq_true]
    intro _ _
    rfl
  · rw [if_neg Bool.false_ne_true]
    have e : inV (.str s) (l.map V.str) = decide (s ∈ l) := by
      unfold inV
      rw [List.any_map, Bool.eq_iff_iff, List.any_eq_true, decide_eq_true_iff]
      constructor
      · rintro ⟨z, hz, e⟩
        have e : (z == s) = true := e
        rw [beq_iff_eq] at e
        exact e ▸ hz
      · exact fun h => ⟨s, h, beq_self_eq_true s⟩
    rw [e]
    exact q
theorem l_ixT {i : Int} (h : SqT K H p xs) (a : atI xs i = some v) (q : Q v H) : rIxT K (.ref p) (.int i) H Q := ⟨p, xs, i, v, rfl, rfl, h, a, q⟩
theorem l_catT {a b : Addr} {ys : List V} (ha : SqT K H a xs) (hb : SqT K H b ys) (nx : xs ≠ []) (ny : ys ≠ []) (sz : xs.length + ys.length ≤ sizeLine) (q : ∀ p G, H p = none → Same H G → G p = some (.tup (xs ++ ys)) → Q (.ref p) G) : rCatT K (.ref a) (.ref b) H Q :=
  ⟨a, b, xs, ys, rfl, rfl, ha, hb, nx, sz, fun z => absurd z ny, fun _ p n => q p _ n (same0 n) upd_same⟩
def RMakeKW (C : Addr) (m : Nat) (ks : List Str) (sp : Sp) (E : XK) (zs : List V) (H2 : Hp) (Q : VK) : Prop := zs.length = m ∧ ∀ x dx, H2 x = none → H2 dx = none → dx ≠ x →
  ∀ D, upd (upd H2 dx (.own x)) x (.ins C dx []) D = none → sp [.ref x, .ref D] (upd (upd (upd H2 dx (.own x)) x (.ins C dx [])) D (.dK (kwV ks zs))) (fun v H3 => v = .non ∧ Q (.ref x) H3) E
theorem s_makeKW {C : Addr} {m : Nat} {ks : List Str} {sp : Sp} {E : XK} {tk : TA} (q : tk σ H fun zs H2 => RMakeKW C m ks sp E zs H2 Q) : tMakeKW C m ks sp E tk σ H Q := q
theorem toW_is {te : TE} {τ : L2.St} {G : Hp} {v : V} {Pr : Hp → V → Prop} (t : ToV te τ G v) (p : ∀ G', Same G G' → Pr G' v) : ToW te τ G Pr := fun R r => t R fun G' s => r v G' s (p G' s)
end
end G9

/-! Two dicts put together in a display. -/
namespace G9
open PySem PySem.Spec PyProof.Rows L2
section
variable {prog : Program} {w : World} {κ : Type} [DecidableEq κ] {knd : KeyKind prog w κ} {A : Around} {E : Value → Shared → Prop} {s : Shared}
theorem put_pairs {d : Addr} {kvs : List (κ × Value)} {k : κ} {key v : Value} {Q : Unit → Shared → Prop} (hkey : knd.is k key = true) (hm : s.heap.DictOf knd d kvs)
    (hQ : ∀ h', h'.DictOf knd d (stored kvs k v) → Heap.SameBut d s.heap h' → Q () { s with heap := h' }) (hsz : kvs.length ≤ sizeLine) : wpAny (model prog w) A (dictPut d (knd.hash k) key v) Q E s := by
  obtain ⟨o, es, ep, ho, hc, hd, hk, hp, hn⟩ := hm
  have hes : es.size ≤ sizeLine := by
    have e1 := hp.length
    have e2 : es.toList.length = es.size := by simp
    omega
  unfold dictPut
  refine wpAny_bind (wpAny_dictFind_of hkey ho hd hk ?_)
  have hidx : (es.findIdx? fun e => knd.is k e.key) = kvs.findIdx? fun kv => decide (kv.1 = k) := by
    rw [← hp.findIdx k]
    obtain ⟨l⟩ := es
    simp
  cases hi : es.findIdx? fun e => knd.is k e.key with
  | some i =>
    refine wpAny_updateDict ho hd (hQ _ ⟨_, _, ep, Heap.get?_update_self _ ho (Obj.isFreed_of_dict (Obj.data_mapDict hd _)), hc.mapDict _, Obj.data_mapDict hd _, hk.modify _ _, ?_, ?_⟩ (Heap.SameBut.update ..))
    · rw [stored, if_pos (any_of_findIdx_some (hidx ▸ hi))]
      have hl : (es.toList.findIdx? fun e => knd.is k e.key) = some i := by
        rw [← hi]
        obtain ⟨l⟩ := es
        simp
      have := hp.modify hn hl v
      obtain ⟨l⟩ := es
      simpa using this
    · rw [stored, if_pos (any_of_findIdx_some (hidx ▸ hi)), keys_map_store]
      exact hn
  | none =>
    have hnot : k ∉ kvs.map (·.1) := not_mem_of_findIdx_none (hidx ▸ hi)
    have hany : ¬ (kvs.any fun kv => decide (kv.1 = k)) = true := by
      rw [List.any_eq_true]
      rintro ⟨kv, hkv, he⟩
      exact hnot (List.mem_map.mpr ⟨kv, hkv, of_decide_eq_true he⟩)
    refine wpAny_updateDictKeys (hz := hes) ho hd (hQ _ ⟨_, _, ep + 1, Heap.get?_update_self _ ho (Obj.isFreed_of_dict (Obj.data_mapDictKeys hd _)), hc.mapDictKeys _, Obj.data_mapDictKeys hd _, hk.push hkey _, ?_, ?_⟩ (Heap.SameBut.update ..))
    · rw [stored, if_neg hany]
      have := hp.append hkey (knd.hash k) v
      obtain ⟨l⟩ := es
      simpa using this
    · rw [stored, if_neg hany, List.map_append, List.nodup_append]
      refine ⟨hn, by simp, ?_⟩
      intro a ha b hb
      simp only [List.map_cons, List.map_nil, List.mem_singleton] at hb
      subst hb
      exact fun e => hnot (e ▸ ha)
end
section
variable {prog : Program} {w : World} {A : Around} {E : Value → Shared → Prop} {s : Shared}
theorem merge_plain {d a : Addr} {kvs more : List (Key × Value)} {Q : Unit → Shared → Prop} (hda : d ≠ a) (hS : (a == sysModules) = false) (hd : s.heap.DictOf (mixKind prog w) d kvs) (ha : s.heap.DictOf (mixKind prog w) a more) (hsz : kvs.length + more.length ≤ sizeLine)
    (hQ : ∀ h', h'.DictOf (mixKind prog w) d (merged kvs more) → Heap.SameBut d s.heap h' → Q () { s with heap := h' }) : wpAny (model prog w) A (mergeMapping d (.ref a) false) Q E s := by
  obtain ⟨od, esd, epd, hod, hcd, hdd, hkd, hpd, hnd⟩ := id hd
  obtain ⟨oo, eso, epo, hoo, hco, hdo', hko, hpo, hno⟩ := id ha
  have hlen : more.length = eso.size := by
    rw [← hpo.length]
    simp
  have keyNo : ∀ e ∈ eso.toList, ∀ r, e.key ≠ Value.ref r := fun e he r z => by
    obtain ⟨k, hk, _⟩ := hko e (by simpa using he)
    rcases keyIs_shape hk with ⟨i, t, _, e2⟩ | ⟨x, t, _, e2⟩
    · rw [z] at e2
      cases e2
    · rw [z] at e2
      cases e2
  unfold mergeMapping
  refine wpAny_bind (m := isInstance (.ref a) (.type "dict")) (wpAny_isInstance ha.typeIs PySem.F.sub_dict_dict ?_)
  simp only [if_true]
  refine wpAny_bind (m := specialOf (.ref a) "__iter__") (wpAny_specialOf ha.typeIs PySem.F.slot_dict_iter.lookup ?_)
  rw [show ((some (Value.builtin "dict.__iter__")) == some (Value.builtin "dict.__iter__")) = true from by simp]
  simp only [hS, pure_bind, if_false, Bool.false_eq_true]
  have loop : wpAny (model prog w) A (do
      let es0 ← dictEntries a
      let epoch ← dictEpoch a
      forIn (List.range es0.size) PUnit.unit fun i (_ : PUnit) => (do
        let l ← dictEntries a
        match l[i]? with
          | some e => do
            holding [e.key, e.val] (dictPut d e.hash e.key e.val)
            let ep' ← dictEpoch a
            if (ep' != epoch) = true then do
                (unsupported "dict.changed-during-merge" : Sem PUnit)
                pure (ForInStep.yield PUnit.unit)
              else pure (ForInStep.yield PUnit.unit)
          | _ => do
            (unsupported "dict.changed-during-merge" : Sem PUnit)
            pure (ForInStep.yield PUnit.unit) : Sem (ForInStep PUnit))
      pure ()) Q E s := by
    refine wpAny_bind (wpAny_dictEntries hoo hdo' ?_)
    refine wpAny_bind (wpAny_dictEpoch hoo hdo' ?_)
    refine wpAny_bind ?_
    rw [List.range_eq_range']
    refine wpAny_forIn_list _
      (fun rest _ s' => ∃ h' i, s' = { s with heap := h' } ∧ rest = List.range' i (eso.size - i) ∧ i ≤ eso.size ∧ h'.DictOf (mixKind prog w) d (merged kvs (more.take i)) ∧ h'.get? a = some oo ∧ Heap.SameBut d s.heap h')
      _ ?_ ?_ _ _ ⟨s.heap, 0, rfl, by simp, Nat.zero_le _, by simpa [merged] using hd, hoo, Heap.SameBut.refl _ _⟩
    · rintro x rest b s' ⟨h', i, rfl, hr, hi, hd', hoo', hs'⟩
      have hlt : i < eso.size := by
        rcases Nat.lt_or_ge i eso.size with h | h
        · exact h
        · rw [Nat.sub_eq_zero_of_le h] at hr
          simp at hr
      obtain ⟨rfl, hrest⟩ : x = i ∧ rest = List.range' (i + 1) (eso.size - (i + 1)) := by
        have e : eso.size - i = (eso.size - (i + 1)) + 1 := by omega
        rw [e, List.range'_succ] at hr
        injection hr with h1 h2
        exact ⟨h1, h2⟩
      refine wpAny_bind (wpAny_dictEntries hoo' hdo' ?_)
      rw [Array.getElem?_eq_getElem hlt]
      obtain ⟨kv, hkv⟩ : ∃ kv, more[x]? = some kv := ⟨more[x]'(by rw [hlen]; exact hlt), List.getElem?_eq_getElem _⟩
      obtain ⟨k, v⟩ := kv
      obtain ⟨hkey, hval⟩ := hpo.get? (e := eso[x]) (by simp [hlt]) hkv
      obtain ⟨k', hkey', hhash⟩ := hko eso[x] (Array.getElem_mem hlt)
      obtain rfl : k' = k := (mixKind prog w).inj _ _ _ hkey' hkey
      show wpAny _ _ (holding [eso[x].key, eso[x].val] (dictPut d eso[x].hash eso[x].key eso[x].val) >>= _) _ _ _
      rw [hhash, hval]
      have hmx : (merged kvs (more.take x)).length ≤ sizeLine := by
        have e1 := merged_length_le kvs (more.take x)
        have e2 : (more.take x).length ≤ more.length := by
          rw [List.length_take]
          omega
        omega
      refine wpAny_bind (wpAny_holding (put_pairs (hsz := hmx) hkey hd' fun h'' hd'' hs'' => ?_))
      have hoo'' : h''.get? a = some oo := (hs''.2 a (Ne.symm hda)).trans hoo'
      refine wpAny_bind (wpAny_dictEpoch hoo'' hdo' ?_)
      rw [if_neg (by simp)]
      exact wpAny_pure ⟨h'', x + 1, rfl, hrest, hlt, by rw [merged_take_succ kvs more x (k', v) hkv]; exact hd'', hoo'', hs'.trans hs''⟩
    · rintro b s' ⟨h', i, rfl, hr, hi, hd', hoo', hs'⟩
      have hin : i = eso.size := by
        rcases Nat.lt_or_ge i eso.size with h | h
        · have e : eso.size - i = (eso.size - (i + 1)) + 1 := by omega
          rw [e, List.range'_succ] at hr
          exact nomatch hr
        · exact Nat.le_antisymm hi h
      refine wpAny_pure (hQ h' ?_ hs')
      rw [hin, ← hlen, List.take_length] at hd'
      exact hd'
  refine wpAny_bind (wpAny_dictEntries hod hdd ?_)
  split
  · refine wpAny_bind (wpAny_dictEntries hoo hdo' ?_)
    refine wpAny_bind (m := forIn eso PUnit.unit _) ?_
    rw [← Array.forIn_toList]
    refine wpAny_forIn_list _ (fun rest _ s' => s' = s ∧ ∀ e ∈ rest, e ∈ eso.toList) _ ?_ ?_ _ _ ⟨rfl, fun _ h => h⟩
    · rintro e rest b s' ⟨rfl, sub⟩
      have kn := keyNo e (sub e List.mem_cons_self)
      cases ke : e.key with
      | ref r => exact absurd ke (kn r)
      | _ => exact wpAny_pure ⟨rfl, fun x h => sub x (List.mem_cons_of_mem _ h)⟩
    · rintro b s' ⟨rfl, _⟩
      exact loop
  · exact loop
end
theorem disp_two {M : Model} {A : Around} {E : Value → Shared → Prop} {s : Shared} {Q : Value → Shared → Prop} {v1 v2 : Sem Value} {d : Addr} (hd : d = s.heap.objs.size)
    (h : wpAny M A v1 (fun m1 s1 => wpAny M A (mergeMapping d m1 false) (fun _ s2 => wpAny M A v2 (fun m2 s3 => wpAny M A (mergeMapping d m2 false) (fun _ s4 => Q (.ref d) s4) (fun _ _ => False) s3) E s2) (fun _ _ => False) s1) E
      { s with heap := s.heap.push { cls := .type "dict", data := .dict #[] } }) : wpAny M A (dictDisplay [(none, v1), (none, v2)]) Q E s := by
  subst hd
  unfold dictDisplay
  dsimp only
  simp only [List.forIn_cons, List.forIn_nil, List.isEmpty_nil, if_true, pure_bind]
  refine wpAny_bind (wpAny_bind (wpAny_bind (wpAny_alloc (wpAny_bind (wpAny_holding (wpAny_mono h (fun m1 s1 h1 => ?_) (fun _ _ e => e)))))))
  refine wpAny_bind (wpAny_onRaise (wpAny_tryCatch (wpAny_onRaise (wpAny_holding (wpAny_mono h1 (fun _ s2 h2 => ?_) (fun _ _ e => e.elim))))))
  refine wpAny_pure ?_
  dsimp only
  refine wpAny_bind (wpAny_bind ?_)
  simp only [List.isEmpty_nil, if_true]
  refine wpAny_pure ?_
  dsimp only
  refine wpAny_bind (wpAny_holding (wpAny_mono h2 (fun m2 s3 h3 => ?_) (fun _ _ e => e)))
  refine wpAny_bind (wpAny_onRaise (wpAny_tryCatch (wpAny_onRaise (wpAny_holding (wpAny_mono h3 (fun _ s4 h4 => ?_) (fun _ _ e => e.elim))))))
  refine wpAny_pure ?_
  dsimp only
  refine wpAny_pure ?_
  dsimp only
  refine wpAny_bind ?_
  simp only [List.isEmpty_nil, if_true]
  exact wpAny_pure (wpAny_pure h4)
section
variable {X : Cx} {a b : Expr} {ta tb : TE} {pos : Pos}
/-- {**x, **y} -/
def tDm2 (ta tb : TE) : TE := fun σ H Q => ∀ p, H p = none → ta σ (upd H p (.dK [])) fun x H1 => H1 p = some (.dK []) ∧ ∃ (d : Addr) (kvs : List (Key × V)), x = .ref d ∧ d ≠ p ∧ Rd H1 d (.dK kvs) ∧ kvs.length ≤ 1000 ∧
  tb σ (upd H1 p (.dK (mergeK [] kvs))) fun y H2 => H2 p = some (.dK (mergeK [] kvs)) ∧ ∃ (e : Addr) (lvs : List (Key × V)), y = .ref e ∧ e ≠ p ∧ Rd H2 e (.dK lvs) ∧ lvs.length ≤ 1000 ∧ Q (.ref p) (upd H2 p (.dK (mergeK (mergeK [] kvs) lvs)))
theorem merge_run {pins : List (Addr × Obj)} {σ : L2.St} {H : Hp} {s : Shared} {p d : Addr} {kvs more : List (Key × V)} {R : Shared → Prop} {E : Value → Shared → Prop} (I : Inv X pins σ H s) (e : H p = some (.dK kvs)) (hd : Rd H d (.dK more)) (ne : d ≠ p) (l1 : kvs.length ≤ 4000) (l2 : more.length ≤ 4000)
    (h : ∀ s', Inv X pins σ (upd H p (.dK (mergeK kvs more))) s' → R s') : wpAny (model X.prog X.w) X.A (mergeMapping p (.ref d) false) (fun _ s' => R s') E s := by
  obtain ⟨z1, lo1, vs, r1, dd1⟩ := dk_of I.hok e
  obtain ⟨z2, lo2, ws, r2, dd2⟩ := dk_rd I.hok hd
  refine merge_plain (fun z => ne z.symm) lo2 dd1 dd2 (by rw [← r1.length, ← r2.length, sizeLine_eq]; omega) fun h' dd' sb => ?_
  have hz : (mergeK kvs more).length ≤ sizeLine := by
    have := length_mergeK more kvs
    rw [sizeLine_eq]
    omega
  have he : ∃ q, h'.get? p = some q := let ⟨q, _, _, hq, _⟩ := dd'; ⟨q, hq⟩
  exact h _ (d_write (t' := s.toks) I (by rw [e]; exact True.intro) sb he (dk_new hz lo1 (r2.merge r1) dd'))
theorem pe_dm2 (ha : PE X a ta) (hb : PE X b tb) : PE X (.Dict [none, none] [a, b] pos) (tDm2 ta tb) := by
  refine ⟨fun pins s σ H Q I q => ?_⟩
  have hn := I.hok.fresh (Nat.le_refl s.heap.objs.size)
  have I1 := I.laid (a := s.heap.objs.size) (o := .dK []) (h' := s.heap.push { cls := .type "dict", data := .dict #[] }) (t' := s.toks) (fun _ _ q => Heap.get?_push_of_some _ q) (Nat.le_refl _) (dk_empty s.heap I.big)
  rw [arm_eval_Dict]
  refine wpAny_bind (wpAny_standAt ?_)
  show wpAny _ _ (dictDisplay [(none, do let x ← eval a X.env; standAt pos; pure x), (none, do let x ← eval b X.env; standAt pos; pure x)]) _ _ _
  refine disp_two rfl ?_
  refine wpAny_bind (thn (ha.run pins _ σ _ _ I1 (q _ hn)) fun u s2 ⟨x, H2, I2, rx, e2, d, kvs, ex, nd, hd, l2, q2⟩ => ?_)
  subst ex
  obtain rfl : u = Value.ref d := rx
  refine wpAny_bind (wpAny_standAt (wpAny_pure ?_))
  refine merge_run I2 e2 hd nd (by show 0 ≤ 4000; omega) (by omega) fun s3 I3 => ?_
  have lm : (mergeK [] kvs).length ≤ 1000 := by
    have := length_mergeK kvs []
    rw [List.length_nil] at this
    omega
  refine wpAny_bind (thn (hb.run pins _ σ _ _ I3 q2) fun u2 s4 ⟨y, H4, I4, ry, e4, e, lvs, ey, ne, he, l4, q4⟩ => ?_)
  subst ey
  obtain rfl : u2 = Value.ref e := ry
  refine wpAny_bind (wpAny_standAt (wpAny_pure ?_))
  exact merge_run I4 e4 he ne (by omega) (by omega) fun s5 I5 => ⟨.ref s.heap.objs.size, _, I5, rfl, q4⟩
end
end G9

/-! repr of what can be shown, its text told. -/
namespace G9
open PySem PySem.Spec PyProof.Rows L2
/-- what can be shown, and how -/
def ShwT (K : PySem.W.Frag) (H : Hp) (v : V) (y : Str) : Prop :=
  (∃ i : Int, v = .int i ∧ i.natAbs.log2 < 1920 ∧ y = toString i) ∨ (∃ z : Str, v = .str z ∧ (reprText z).length + 1000 ≤ sizeLine ∧ y = reprText z) ∨ (v = .non ∧ y = "None") ∨ (∃ b, v = .bl b ∧ y = (if b then "True" else "False")) ∨
    (∃ (p : Addr) (d : PyData), v = .ref p ∧ Dp K H (.ref p) d ∧ d.showable = true ∧ d.hasDict = false ∧ d.depth ≤ 60 ∧ d.shown.length + 1000 ≤ sizeLine ∧ y = d.shown) ∨
    ∃ (p : Addr) (kvs : List (Key × V)) (ds : List (PyData × PyData)), v = .ref p ∧ H p = some (.dK kvs) ∧ FlatD kvs ds ∧ (PyData.dict ds).showable = true ∧ (PyData.dict ds).depth ≤ 60 ∧ (PyData.dict ds).shown.length + 1000 ≤ sizeLine ∧ y = (PyData.dict ds).shown
theorem ShwT.shw {K : PySem.W.Frag} {H : Hp} {v : V} {y : Str} (h : ShwT K H v y) : Shw K H v := by
  rcases h with ⟨i, e, h, _⟩ | ⟨z, e, h, _⟩ | ⟨e, _⟩ | ⟨b, e, _⟩ | ⟨p, d, e, a, b, c, d', f, _⟩ | ⟨p, kvs, ds, e, a, b, c, d', f, _⟩
  · exact Or.inl ⟨i, e, h⟩
  · exact Or.inr (Or.inl ⟨z, e, h⟩)
  · exact Or.inr (Or.inr (Or.inl e))
  · exact Or.inr (Or.inr (Or.inr (Or.inl ⟨b, e⟩)))
  · exact Or.inr (Or.inr (Or.inr (Or.inr (Or.inl ⟨p, d, e, a, b, c, d', f⟩))))
  · exact Or.inr (Or.inr (Or.inr (Or.inr (Or.inr ⟨p, kvs, ds, e, a, b, c, d', f⟩))))
theorem ShwT.same {K : PySem.W.Frag} {H G : Hp} {v : V} {y : Str} (s : Same H G) (h : ShwT K H v y) : ShwT K G v y := by
  rcases h with h | h | h | h | ⟨p, d, e, hd, r⟩ | ⟨p, kvs, ds, e, hd, r⟩
  · exact Or.inl h
  · exact Or.inr (Or.inl h)
  · exact Or.inr (Or.inr (Or.inl h))
  · exact Or.inr (Or.inr (Or.inr (Or.inl h)))
  · exact Or.inr (Or.inr (Or.inr (Or.inr (Or.inl ⟨p, d, e, dp_same s hd, r⟩))))
  · exact Or.inr (Or.inr (Or.inr (Or.inr (Or.inr ⟨p, kvs, ds, e, s _ _ hd, r⟩))))
theorem ShwT.len {K : PySem.W.Frag} {H : Hp} {v : V} {y : Str} (h : ShwT K H v y) : y.length + 1000 ≤ sizeLine := by
  rcases h with ⟨i, e, h, rfl⟩ | ⟨z, e, h, rfl⟩ | ⟨e, rfl⟩ | ⟨b, e, rfl⟩ | ⟨p, d, e, a, b, c, d', f, rfl⟩ | ⟨p, kvs, ds, e, a, b, c, d', f, rfl⟩
  · exact int_text_small h
  · exact h
  · rw [sizeLine_eq]
    decide +kernel
  · rw [sizeLine_eq]
    cases b <;> decide +kernel
  · exact f
  · exact f
section
variable {X : Cx}
def rReprT (K : PySem.W.Frag) : List V → Hp → VK → Prop := fun xs H Q => ∃ x y, xs = [x] ∧ ShwT K H x y ∧ Q (.str y) H
theorem call_reprT {k : Nat} (room : RoomW k X.A) : CallR X (.builtin "repr") (rReprT X.K) := by
  intro pins s σ H xs us Q I r h
  obtain ⟨x, y, rfl, sh, q⟩ := h
  obtain ⟨u, rfl, r1⟩ := vals1 r
  have un := room.un
  have ln := sh.len
  rcases sh with ⟨i, rfl, h, rfl⟩ | ⟨z, rfl, h, rfl⟩ | ⟨rfl, rfl⟩ | ⟨b, rfl, rfl⟩ | ⟨p, d, rfl, hd, a1, a2, a3, a4, rfl⟩ | ⟨p, kvs, ds, rfl, e1, f1, a1, a3, a4, rfl⟩
  · obtain ⟨t, rfl⟩ := r1
    exact PySem.P.repr_of_int h ⟨.str _, H, I.tok _, ⟨_, rfl⟩, q⟩
  · obtain ⟨t, rfl⟩ := r1
    exact PySem.P.repr_of_str ⟨.str _, H, I.tok _, ⟨_, rfl⟩, q⟩ (by omega)
  · obtain rfl : u = Value.none := r1
    exact PySem.P.repr_of_none ⟨.str _, H, I.tok _, ⟨_, rfl⟩, q⟩
  · obtain rfl : u = Value.bool b := r1
    cases b <;> exact PySem.P.repr_of_bool ⟨.str _, H, I.tok _, ⟨_, rfl⟩, q⟩
  · obtain ⟨as, rd⟩ := Dp.reads I d _ _ hd r1
    obtain rfl : u = Value.ref p := r1
    exact repr_of_reads' rd a1 (fun z => by rw [a2] at z; cases z) room.g (by omega) (fun _ _ z => z) (fun h' t tk k => ⟨.str _, H, I.kept k, ⟨t, rfl⟩, q⟩) (by omega)
  · obtain ⟨as, rd, no⟩ := dict_reads I e1 f1
    obtain rfl : u = Value.ref p := r1
    exact repr_of_reads' rd a1 (fun _ => no) room.g (by omega) (fun _ _ z => z) (fun h' t tk k => ⟨.str _, H, I.kept k, ⟨t, rfl⟩, q⟩) (by omega)
theorem l_reprT {K : PySem.W.Frag} {H : Hp} {x : V} {y : Str} {Q : VK} (sh : ShwT K H x y) (q : Q (.str y) H) : rReprT K [x] H Q := ⟨x, y, rfl, sh, q⟩
end
end G9

/-! Loops over lists; slices of lists; a dict's item set. -/
namespace G9
open PySem PySem.Spec PyProof.Rows L2
section
variable {K : PySem.W.Frag} {σ : L2.St} {H : Hp} {tl te : TE} {tar : TA} {tbd : TS} {g : TG} {D : Ends} {Q : VK} {x v : V}
def LFor (K : PySem.W.Frag) (g : TG) (tb : TS) (D : Ends) (σ : L2.St) (x : V) (H1 : Hp) : Prop := ∃ a, x = .ref a ∧ (∃ xs, SqL K H1 a xs) ∧ WFor (Itl K a) g tb D σ H1
theorem s_forL (q : tl σ H fun x H1 => LFor K g tbd D σ x H1) : tFor (iList K tl) g tbd D σ H := q
theorem l_forL {p : Addr} {xs : List V} (h : SqL K H p xs) (Pv : Nat → L2.St → Hp → Prop) (a : Pv 0 σ H) (stay : ∀ i σ H, i ≤ xs.length → Pv i σ H → SqL K H p xs)
    (turn : ∀ (i : Nat) x σ H, xs[i]? = some x → Pv i σ H → g x σ H fun σ2 H2 => tbd { D with nx := Pv (i + 1), ct := Pv (i + 1), bk := D.nx } σ2 H2) (done : ∀ σ H, Pv xs.length σ H → D.nx σ H) : LFor K g tbd D σ (.ref p) H :=
  ⟨p, rfl, ⟨xs, h⟩, for_list Pv a stay turn done⟩
theorem l_slL {p : Addr} {xs : List V} {lo hi : Option Int} (h : SqL K H p xs) (q : ∀ l G, H l = none → Same H G → G l = some (.lst (cutV xs lo hi)) → Q (.ref l) G) : rSlL K (.ref p) lo hi H Q := ⟨p, xs, rfl, h, fun l n => q l _ n (same0 n) upd_same⟩
theorem cut_to {xs : List V} {i : Int} (h0 : 0 ≤ i) (h1 : i ≤ (xs.length : Int)) : cutV xs none (some i) = xs.take i.toNat := by
  have e1 : HT.sIx xs.length 0 none = 0 := rfl
  have e2 : HT.sIx xs.length xs.length (some i) = i.toNat := by
    obtain ⟨k, rfl⟩ := Int.eq_ofNat_of_zero_le h0
    rw [HT.sIx_nat]
    simp only [Int.toNat_natCast]
    omega
  unfold cutV
  rw [e1, e2, List.drop_zero]
  rfl
end
end G9

/-! Lambdas handed to a def, in surroundings without a repr under way. -/
namespace G9
open PySem PySem.Spec PyProof.Rows L2 LamX
section
variable {X : Cx} {pins : List (Addr × Obj)} {σ : L2.St} {H : Hp} {s : Shared}
/-- the call of what was handed on -/
theorem act_G {CXg : CXT} {Eg : XK} {Ng : List Str} {qg : Str} {sg : Scope} {g f c' : Addr} {cdg pm ctv : Value} {params : Arguments} {body : Expr} {scope : Scope} {k i : Nat} {a : Str} {pn : List (Addr × Obj)} {xe : Value → Shared → Prop} {W : WX} {E : XK} {tb : TE} {p1 p2 : Pos}
    (I : Inv X pins σ H s) (L : LamS X.env.scope scope) (at_ : s.heap.get? f = some (PySem.W.kla_obj "<lambda>" (X.env.qual ++ "<lambda>") params body scope (cloFrom X.env.cells scope.names []) pm c' ctv)) (nf : H f = none) (nfr : f ∉ frs X.stack)
    (bound : bindArgs (PySem.W.kla_fn "<lambda>" (X.env.qual ++ "<lambda>") params body scope (cloFrom X.env.cells scope.names []) pm (.ref c') ctv) ⟨[], []⟩ = pure [])
    (tk : Takes ((cxOf CXg X.prog X.w X.K X.mg X.base Ng qg sg g cdg X.A X.stack s H Eg).tr pn xe) W) (sub : ∀ cls d (τ : L2.St) G, τ.length = Ng.length → E cls d G → W cls d τ G) (room : RoomG (k + 1) (X.A.deeper (envOfC qg sg s.heap.objs.size g cdg)))
    (inner : ∀ (A : Around) (outer : List Env) (z : Shared) (G : Hp), RoomG k (A.deeper (lamEnv X scope z.heap.objs.size f c')) → PE (lamCx X A outer z G E scope f c') body tb)
    (hN : Ng[i]? = some a) (vis : Vis sg a) (d1 : (a == ("__debug__" : Str)) = false := by decide) (d2 : (a == ("__classdict__" : Str)) = false := by decide) :
    PE ((cxOf CXg X.prog X.w X.K X.mg X.base Ng qg sg g cdg X.A X.stack s H Eg).tr pn xe) (.Call (.Name a p1) [] [] p2)
      (fun τ G Q => τ[i]? = some (some (.ref f)) ∧ G c' = some (CodeO c' (X.env.qual ++ "<lambda>")) ∧ tb σ G Q) := by
  constructor
  intro pinsZ sZ τ G Q IZ want
  obtain ⟨here, co, w1⟩ := want
  refine wpAny_Call_Name_kw (thn ((pe_var (pos := p1) (i := i) hN vis d1 d2).run pinsZ sZ τ G (fun v G1 => v = .ref f ∧ G1 = G) IZ ⟨.ref f, here, rfl, rfl⟩) fun u s1 ⟨v, G1, J, rv, e1, e2⟩ => ?_)
  subst e1
  rw [e2] at J
  obtain rfl : u = Value.ref f := rv
  have now := J.base.keep f _ at_ nf nfr (fun z => nomatch (show f ∈ ([] : List Addr) from z))
  refine PySem.W.callWith_F0 ⟨_, _, _, _, now⟩ ?_
  have un : Un (frs X.stack) [] H G s.heap s1.heap := J.base
  obtain ⟨⟨oc, vs, t, hoc, hdc, hvc⟩, _, _⟩ := J.hok c' _ co
  have ran : codeAny (model X.prog X.w) (X.A.deeper (envOfC qg sg s.heap.objs.size g cdg)) (.call (.ref f) ⟨[], []⟩) (CR (L2.CX X.prog X.w) (envOfC qg sg s.heap.objs.size g cdg :: X.stack) X.prog X.w G s1 Q E) s1 := by
    refine PySem.W.kla_callFunE room.r.depth now rfl L.co L.gen rfl ⟨c', oc, vs, t, rfl, hoc, hdc, hvc⟩ ?_
    rw [bound]
    refine wpAny_pure (wpAny_newFunctionEnv (fun y hy => (L.own y hy).2) (fun y hy => absurd hy (by simp)) (fun h1 hns hsb => ⟨J.nolimit.fresh _ hsb, ?_⟩) L.kind)
    show codeAny _ _ (.expr body (lamEnv X scope s1.heap.objs.size f c')) _ _
    have keep : ∀ b o, s1.heap.get? b = some o → h1.get? b = some o := fun b o e => hsb.extBut b o (Nat.ne_of_lt (Heap.lt_size e)) (Heap.get?_push_of_some _ e)
    have J2 : Inv (lamCx X (X.A.deeper (envOfC qg sg s.heap.objs.size g cdg)) (envOfC qg sg s.heap.objs.size g cdg :: X.stack) s1 G E scope f c') [] σ G { s1 with heap := h1, toks := s1.toks + ([] : List (Str × Value)).length } :=
      lam_start2 I L J.env0 room.r.hd un hns keep
    refine PySem.W.kla_codeExpr (wpAny_mono ((inner _ _ s1 G ⟨room.r.deeper _, room.g⟩).run [] _ _ G Q J2 w1) (fun v s' hq => ?_) fun _ _ hq => hq)
    obtain ⟨w', G', J', rv, q⟩ := hq
    exact ⟨w', G', J'.os, J'.bare, J'.base, J'.hok, rv, q⟩
  have hx : Passes (L2.CX X.prog X.w) ((cxOf CXg X.prog X.w X.K X.mg X.base Ng qg sg g cdg X.A X.stack s H Eg).tr pn xe) E := fun _ τ _ _ e s' I c => tk e s' (XE.of_call I (fun cls d G' h => sub cls d τ G' I.len h) c)
  refine wpAny_call (codeAny_mono ran fun res s' hq => ?_)
  match res, hq with
  | .error e, hq => exact hx pinsZ τ G s1 e s' J hq
  | .ok (.ret u), hq => exact J.after hq
end
/-- a def called, its promise told of the very state -/
theorem run_G {CX : CXT} {P : Program} {w : World} {K : PySem.W.Frag} {mg : Str → Option Value} {base : Heap} {k : Nat} {f : Addr} {name qual : Str} {params : Arguments} {body : List Stmt} {scope : Scope} {dV kV doc pm cdv ct oc : Value} {an od : Option Addr}
    {osl : Array (Option Value)} {N ps : List Str} (lk : K.lookup f = some ⟨oc, od, .func (PySem.W.fnOf name qual params body scope dV kV doc pm an cdv ct), osl⟩) (cd : PySem.W.codeIn K cdv qual = true) (S : FnScope N ps scope)
    {A : Around} {outer : List Env} {s : Shared} {H : Hp} {args : Args} {us : List Value} {vs : List V} {Q : VK} {E : XK} (room : RoomG (k + 1) A) (env : Env0 P w K mg base A outer s H) (bind : BindsTo s (PySem.W.fnOf name qual params body scope dV kV doc pm an cdv ct) args (ps.zip us)) (rel : Vals vs us) (same : vs.length = ps.length)
    (inner : RoomG k (A.deeper (envOfC qual scope s.heap.objs.size f cdv)) → ∃ t, PSs (cxOf CX P w K mg base N qual scope f cdv A outer s H E) body t ∧ t { nx := fun _ G => Q .non G, rt := Q } (L2.start N vs) H) :
    codeAny (model P w) A (.call (.ref f) args) (CR CX outer P w H s Q E) s := by
  have inS : K.In s.heap := env.mod.kin.keeps fun b o z => (env.bs b o z).1
  have noLim : s.heap.NoLimit := env.mod.nolimit.keeps fun b o z => (env.bs b o z).1
  have kinds : ∀ y ∈ ps.zip us, scope.names.lookup y.1 = some .local ∨ (scope.names.lookup y.1 = some .cell ∧ ((cellsFrom (s.heap.objs.size + 1) scope.names []).lookup y.1).isSome = true) := by
    rintro ⟨n, v⟩ hy
    rcases S.par n (List.of_mem_zip hy).1 with z | z
    · exact Or.inl z
    · exact Or.inr ⟨z, PySem.W.cellsFrom_some _ _ _ (.inl z)⟩
  refine codeAny_call_function room.r.depth (inS _ _ lk) rfl S.co S.gen rfl (PySem.W.codeRec_of inS cd) (bind _ _ _ _ ?_)
  refine wpAny_newFunctionEnv_cells S.kind kinds fun en ee s1 x => ?_
  subst ee
  refine ⟨noLim.keeps x.toInCall.keep, codeAny_func ?_⟩
  obtain ⟨t, ht, hq⟩ := inner ⟨room.r.deeper _, room.g⟩
  have J := inv_start (CX := CX) (E := E) S room.r.hd env same rel x
  have done : ∀ {τ : L2.St} {G : Hp} {v : V} {u : Value} {z : Shared}, Inv (cxOf CX P w K mg base N qual scope f cdv A outer s H E) [] τ G z → RelV v u → Q v G → CE outer P w H s Q u z :=
    fun {_ G v _ _} I r q => ⟨v, G, I.os, I.bare, I.base, I.hok, r, q⟩
  refine wpAny_mono (ht.run [] s1 (L2.start N vs) H _ J hq) ?_ fun _ _ z => z
  intro fl z hz
  cases fl with
  | next =>
    obtain ⟨_, _, I, q⟩ := hz
    exact done (v := V.non) (u := Value.none) I rfl q
  | ret u =>
    obtain ⟨_, _, _, I, r, q⟩ := hz
    exact done I r q
  | brk => exact hz.elim fun _ h => h.elim fun _ h => h.2.elim
  | cont => exact hz.elim fun _ h => h.elim fun _ h => h.2.elim
/-- what a def that calls what it got makes of it -/
def GivesG (X : Cx) (Ng : List Str) (x : Str) (sg : Scope) (g : Addr) (cdg : Value) (bg : List Stmt) (a : Str) (q : Str) (k : Nat) (TT : (XK → Hp → VK → Prop) → Hp → VK → Prop) : Prop :=
  ∀ (f c' : Addr) (s : Shared) (H : Hp) (Q : VK) (tl : XK → Hp → VK → Prop), RoomG k (X.A.deeper (envOfC x sg s.heap.objs.size g cdg)) →
    (∀ (W : WX) (pn : List (Addr × Obj)) (xe : Value → Shared → Prop) (E : XK) (p1 p2 : Pos), Takes ((cxOf CX0 X.prog X.w X.K X.mg X.base Ng x sg g cdg X.A X.stack s H (fun _ _ _ => False)).tr pn xe) W → (∀ cls d (τ : L2.St) G, τ.length = Ng.length → E cls d G → W cls d τ G) →
      PE ((cxOf CX0 X.prog X.w X.K X.mg X.base Ng x sg g cdg X.A X.stack s H (fun _ _ _ => False)).tr pn xe) (.Call (.Name a p1) [] [] p2) (fun τ G Q => τ[0]? = some (some (.ref f)) ∧ G c' = some (CodeO c' q) ∧ tl E G Q)) →
    H c' = some (CodeO c' q) → TT tl H Q →
    ∃ t, PSs (cxOf CX0 X.prog X.w X.K X.mg X.base Ng x sg g cdg X.A X.stack s H (fun _ _ _ => False)).nox bg t ∧ t { nx := fun _ G => Q .non G, rt := Q } (L2.start Ng [.ref f]) H
section
variable {X : Cx}
/-- x(lambda: body), x any def of the globals -/
theorem pe_lamG {T : List (Addr × Str)} {TT : (XK → Hp → VK → Prop) → Hp → VK → Prop} {x a : Str} {g c P : Addr} {k : Nat} {pg : Arguments} {bg : List Stmt} {sg : Scope} {dV kV doc pm cdv ct oc : Value} {an od : Option Addr} {osl : Array (Option Value)} {Ng : List Str}
    {params : Arguments} {body : Expr} {scope : Scope} {t : XK → TE} {p lpos pos : Pos} (hg : Gl X x) (hm : X.mg x = some (.ref g)) (hk : PySem.W.keepIn X.K (.ref g) = true)
    (lk : X.K.lookup g = some ⟨oc, od, .func (PySem.W.fnOf x x pg bg sg dV kV doc pm an cdv ct), osl⟩) (cg : PySem.W.codeIn X.K cdv x = true) (hb : L2.Binds X.K (PySem.W.fnOf x x pg bg sg dV kV doc pm an cdv ct) [a] []) (Sg : FnScope Ng [a] sg) (hNg : Ng[0]? = some a) (vis : Vis sg a)
    (gives : GivesG X Ng x sg g cdv bg a (X.env.qual ++ "<lambda>") (k + 1) TT)
    (TB : TabB X.base X.mg c P) (hcode : X.env.code = .ref c) (hmT : (P, X.env.qual ++ "<lambda>") ∈ T) (hu : ∀ p ∈ T, p.1 = P → p.2 = X.env.qual ++ "<lambda>") (room : RoomG (k + 2) X.A) (L : LamS X.env.scope scope) (hdef : defaultsOf params X.env = ([], []))
    (bound : ∀ (q : Str) (cl : List (Str × Addr)) (pm cv ctv : Value), bindArgs (PySem.W.kla_fn "<lambda>" q params body scope cl pm cv ctv) ⟨[], []⟩ = pure [])
    (inner : ∀ (A : Around) (outer : List Env) (s : Shared) (H : Hp) (E : XK) (f c' : Addr), RoomG k (A.deeper (lamEnv X scope s.heap.objs.size f c')) → PE (lamCx X A outer s H E scope f c') body (t E))
    (d0 : (x == ("__debug__" : Str)) = false := by decide) (d1 : (a == ("__debug__" : Str)) = false := by decide) (d2 : (a == ("__classdict__" : Str)) = false := by decide) :
    PE X (.Call (.Name x p) [.Lambda params body scope lpos] [] pos) (tLam T TT t) := by
  constructor
  intro pins s σ H Q I want
  obtain ⟨hT, want⟩ := want
  refine wpAny_Call_Name_kw (ld_glob I hg hm ?_ d0)
  refine PySem.W.callWith_K (h₀ := X.base) I.ok.mod.kin hk ?_ (by rfl) (by rfl)
  show wpAny _ _ (spliced ((false, eval (.Lambda params body scope lpos) X.env) :: backTo pos (starEach [] X.env))) _ _ s
  refine Calls.spliced_cons (lam_make2 I TB hcode hmT hu hT hdef (L.has I.ok) fun f c' pm' ctv H1 s1 J eN T1 hf hfn hfr hco => Calls.spliced_nil ⟨J.kIn, ?_⟩)
  have ran : codeAny (model X.prog X.w) X.A (.call (.ref g) ⟨[.ref f], []⟩) (CR CX0 X.stack X.prog X.w H1 s1 Q (fun _ _ _ => False)) s1 := by
    refine run_G (N := Ng) (ps := [a]) (us := [.ref f]) (vs := [.ref f]) lk cg Sg room J.env0 (hb s1 [.ref f] J.kIn rfl) (.cons rfl .nil) rfl fun r1 => ?_
    obtain ⟨t1, ht1, hq1⟩ := gives f c' s1 H1 Q (fun E G Q' => t E σ G Q') r1 (fun W pn xe E p1 p2 tk sub => act_G (i := 0) J L hf hfn hfr (bound _ _ _ _ _) tk sub r1 (fun A outer z G r2 => inner A outer z G E f c' r2) hNg vis d1 d2) hco (want H1 eN T1)
    exact ⟨t1, ht1.nox, hq1⟩
  refine wpAny_call (codeAny_mono ran fun res s2 hq => ?_)
  match res, hq with
  | .error e, hq => exact (show False from hq).elim
  | .ok (.ret u), hq => exact J.after hq
end
/-- a def that makes lambdas: its code object is known -/
theorem okGL {P : Program} {w : World} {K : PySem.W.Frag} {mg : Str → Option Value} {base : Heap} {k : Nat} {f co : Addr} {fd : FuncData} {ps N : List Str} {sp : Sp} {x qual : Str} {st : Stmt} (F : Fun K x qual st f fd)
    (hl : ∃ kV doc pm an ct, fd = PySem.W.fnOf x qual (defArgs st) (defBody st) (defScope st) .none kV doc pm an (.ref co) ct) (S : FnScope N ps (defScope st)) (count : ∀ vs H Q E, sp vs H Q E → vs.length = ps.length)
    (hb : ∀ (A : Around) (fs : List Env) (s : Shared) (H : Hp) (vs : List V) (Q : VK) (E : XK), RoomG k (A.deeper (envOfC qual (defScope st) s.heap.objs.size f (.ref co))) → sp vs H Q E →
      ∃ t, PSs (cxOf CX0 P w K mg base N qual (defScope st) f (.ref co) A fs s H E).nox (defBody st) t ∧ t { nx := fun _ G => Q .non G, rt := Q } (L2.start N vs) H) : FnG P w K mg base CX0 (k + 1) f fd ps sp := by
  obtain ⟨oc, od, kV, doc, pm, an, cdv, ct, osl, rfl, lk, cd⟩ := F.ex
  obtain ⟨kV', doc', pm', an', ct', e⟩ := hl
  have ec : cdv = .ref co := by
    unfold PySem.W.fnOf at e
    injection e
  subst ec
  refine by_body lk cd S count fun A fs s H vs Q E room want => ?_
  obtain ⟨t, h, q⟩ := hb A fs s H vs Q E room want
  exact ⟨t, h.nox, q⟩
section
variable {X : Cx}
theorem pe_lamF {T : List (Addr × Str)} {TT : (XK → Hp → VK → Prop) → Hp → VK → Prop} {x a : Str} {st : Stmt} {g c P : Addr} {fd : FuncData} {k : Nat} {Ng : List Str} {params : Arguments} {body : Expr} {scope : Scope} {t : XK → TE} {p lpos pos : Pos} (hg : Gl X x) (hm : X.mg x = some (.ref g)) (Fd : Fun X.K x x st g fd)
    (hb : L2.Binds X.K fd [a] []) (Sg : FnScope Ng [a] (defScope st)) (hNg : Ng[0]? = some a) (vis : Vis (defScope st) a) (gives : ∀ cdv, GivesG X Ng x (defScope st) g cdv (defBody st) a (X.env.qual ++ "<lambda>") (k + 1) TT)
    (TB : TabB X.base X.mg c P) (hcode : X.env.code = .ref c) (hmT : (P, X.env.qual ++ "<lambda>") ∈ T) (hu : ∀ p ∈ T, p.1 = P → p.2 = X.env.qual ++ "<lambda>") (room : RoomG (k + 2) X.A) (L : LamS X.env.scope scope) (hdef : defaultsOf params X.env = ([], []))
    (bound : ∀ (q : Str) (cl : List (Str × Addr)) (pm cv ctv : Value), bindArgs (PySem.W.kla_fn "<lambda>" q params body scope cl pm cv ctv) ⟨[], []⟩ = pure [])
    (inner : ∀ (A : Around) (outer : List Env) (s : Shared) (H : Hp) (E : XK) (f c' : Addr), RoomG k (A.deeper (lamEnv X scope s.heap.objs.size f c')) → PE (lamCx X A outer s H E scope f c') body (t E))
    (d0 : (x == ("__debug__" : Str)) = false := by decide) (d1 : (a == ("__debug__" : Str)) = false := by decide) (d2 : (a == ("__classdict__" : Str)) = false := by decide) :
    PE X (.Call (.Name x p) [.Lambda params body scope lpos] [] pos) (tLam T TT t) := by
  obtain ⟨oc, od, kV, doc, pm, an, cdv, ct, osl, rfl, lk, cd⟩ := Fd.ex
  exact pe_lamG hg hm Fd.kp lk cd hb Sg hNg vis (gives cdv) TB hcode hmT hu room L hdef bound inner d0 d1 d2
theorem lam_takes {X : Cx} {A : Around} {outer : List Env} {s : Shared} {H : Hp} {E : XK} {scope : Scope} {f c' : Addr} : Takes (lamCx X A outer s H E scope f c') (fun cls d _ G => E cls d G) := takes_of rfl rfl rfl rfl
end
end G9

/-! The law's end where defs make lambdas: their code objects' tables are tracked from the beginning. -/
namespace G9
open PySem PySem.Spec PyProof.Rows L2 LamX
/-- a code object and its table, as the law's start leaves them -/
structure TabZ (K : PySem.W.Frag) (h : Heap) (c P : Addr) : Prop where
  empty : h.get? P = some { cls := .none, data := .fields #[] }
  out : K.lookup P = none
  head : PySem.W.CodeHd h c P
theorem law_endT {P : Program} {w : World} {K : PySem.W.Frag} {mg mb : Str → Option Value} {CX : CXT} {k : Nat} {fa a : Addr} {cs : List (Addr × Addr)} {fd : FuncData} {x : Str} {sp : Sp} {z : Shared} {vs : List Value} {ns : List Int}
    (inK : K.In z.heap) (glo : z.heap.Ns mainGlobals mg) (blt : z.heap.Ns builtinsNs mb) (boot : ∀ y : Str, y ≠ "__name__" → mb y = bootBuiltins y) (lim : z.heap.NoLimit) (bare : z.gens = #[]) (tz : ∀ p ∈ cs, TabZ K z.heap p.1 p.2)
    (bmod : ∃ (m : Addr) (o : Obj), mg "__builtins__" = some (.ref m) ∧ m ≠ builtinsNs ∧ z.heap.get? m = some o ∧ o.cls = .type "module" ∧ o.dict = some builtinsNs ∧ o.data = .plain)
    (ha : z.heap.get? a = some { cls := .type "list", data := .seq vs.toArray }) (nums : IntsAre vs ns) (small : ns.length ≤ sizeLine) (room : Room k callerA)
    (F : ∀ base : Heap, K.In base → base.Ns mainGlobals mg → (∀ p ∈ cs, TabB base mg p.1 p.2) → FnG P w K mg base CX k fa fd [x] sp) (bind : ∀ (s : Shared) (u : Value), BindsTo s fd ⟨[u], []⟩ [(x, u)])
    (want : ∀ H : Hp, (∀ p ∈ cs, H p.2 = some (.tbl #[])) → SqL K H a (ns.map V.int) → sp [.ref a] H (fun v _ => v = .bl true) fun _ _ _ => False)
    (none_out : ∀ H e s', CX [] H z (fun _ _ _ => False) e s' → False) :
    codeAny (model P w) callerA (.call (.ref fa) ⟨[.ref a], []⟩) (fun r s' => r = .ok (.ret (.bool true)) ∧ OldK z.heap s'.heap ∧ s'.os = z.os ∧ AllBare s'.gens) z := by
  have rel := vals_ints nums
  have aT : ∀ p ∈ cs, p.2 ≠ a := fun p hp e => by
    have h1 := (tz p hp).empty
    rw [e, ha] at h1
    have h2 : Data.seq vs.toArray _ = Data.fields #[] := congrArg Obj.data (Option.some.inj h1)
    cases h2
  -- an abstract heap that tracks the tables, and the script at most
  suffices core : ∀ H : Hp, (∀ b u, H b = some u → (b = a ∧ K.lookup a = none ∧ ∃ o xs, u = .frz o (.lst xs)) ∨ ∃ p ∈ cs, b = p.2 ∧ u = .tbl #[]) → (∀ p ∈ cs, H p.2 = some (.tbl #[])) → SqL K H a (ns.map V.int) → HOk P w H z.heap →
      codeAny (model P w) callerA (.call (.ref fa) ⟨[.ref a], []⟩) (fun r s' => r = .ok (.ret (.bool true)) ∧ OldK z.heap s'.heap ∧ s'.os = z.os ∧ AllBare s'.gens) z by
    have look : ∀ (o : Option HO) (b : Addr), (if ∃ p ∈ cs, p.2 = b then some (HO.tbl #[]) else if b = a then o else none) = some (HO.tbl #[]) ∨ (if ∃ p ∈ cs, p.2 = b then some (HO.tbl #[]) else if b = a then o else none) = if b = a then o else none := fun o b => by
      by_cases h : ∃ p ∈ cs, p.2 = b
      · exact Or.inl (if_pos h)
      · exact Or.inr (if_neg h)
    have tabs : ∀ (o : Option HO) (p : Addr × Addr), p ∈ cs → (if ∃ q ∈ cs, q.2 = p.2 then some (HO.tbl #[]) else if p.2 = a then o else none) = some (HO.tbl #[]) := fun o p hp => if_pos ⟨p, hp, rfl⟩
    have ata : ∀ o : Option HO, (if ∃ p ∈ cs, p.2 = a then some (HO.tbl #[]) else if a = a then o else none) = o := fun o => by
      rw [if_neg (fun ⟨p, hp, e⟩ => aT p hp e), if_pos rfl]
    cases there : K.lookup a with
    | some o =>
      have same := inK a o there
      rw [ha] at same
      cases same
      have only : ∀ b u, (if ∃ p ∈ cs, p.2 = b then some (HO.tbl #[]) else if b = a then (none : Option HO) else none) = some u → ∃ p ∈ cs, b = p.2 ∧ u = .tbl #[] := fun b u q => by
        by_cases h : ∃ p ∈ cs, p.2 = b
        · rw [if_pos h] at q
          obtain ⟨p, hp, e⟩ := h
          exact ⟨p, hp, e.symm, (Option.some.inj q).symm⟩
        · rw [if_neg h] at q
          by_cases hb : b = a
          · rw [if_pos hb] at q
            cases q
          · rw [if_neg hb] at q
            cases q
      refine core (fun b => if ∃ p ∈ cs, p.2 = b then some (.tbl #[]) else if b = a then none else none) (fun b u q => Or.inr (only b u q)) (tabs none) (Or.inr ⟨_, vs.toArray, _, there, rfl, rfl, rfl, ?_, by simpa using rel⟩) fun b u q => ?_
      · have := nums.length
        simp only [List.size_toArray]
        omega
      · obtain ⟨p, hp, rfl, rfl⟩ := only b u q
        exact (tz p hp).empty
    | none =>
      have only : ∀ b u, (if ∃ p ∈ cs, p.2 = b then some (HO.tbl #[]) else if b = a then some (HO.frz { cls := .type "list", data := .seq vs.toArray } (.lst (ns.map V.int))) else none) = some u →
          (b = a ∧ u = HO.frz { cls := .type "list", data := .seq vs.toArray } (.lst (ns.map V.int))) ∨ ∃ p ∈ cs, b = p.2 ∧ u = .tbl #[] := fun b u q => by
        by_cases h : ∃ p ∈ cs, p.2 = b
        · rw [if_pos h] at q
          obtain ⟨p, hp, e⟩ := h
          exact Or.inr ⟨p, hp, e.symm, (Option.some.inj q).symm⟩
        · rw [if_neg h] at q
          by_cases hb : b = a
          · rw [if_pos hb] at q
            exact Or.inl ⟨hb, (Option.some.inj q).symm⟩
          · rw [if_neg hb] at q
            cases q
      refine core (fun b => if ∃ p ∈ cs, p.2 = b then some (.tbl #[]) else if b = a then some (.frz { cls := .type "list", data := .seq vs.toArray } (.lst (ns.map V.int))) else none) (fun b u q => ?_) (tabs _) (Or.inl (Or.inr ⟨_, ata _⟩)) fun b u q => ?_
      · rcases only b u q with ⟨e1, e2⟩ | h
        · exact Or.inl ⟨e1, there, _, _, e2⟩
        · exact Or.inr h
      · rcases only b u q with ⟨e1, e2⟩ | ⟨p, hp, rfl, rfl⟩
        · subst e1
          subst e2
          exact ⟨ha, by rw [List.length_map]; exact small, vs, _, rel, ha⟩
        · exact (tz p hp).empty
  intro H tracked isT script ok
  -- what is neither the script nor a table is not tracked
  have plainO : ∀ {b : Addr} {o : Obj}, z.heap.get? b = some o → (∀ us n, o.data ≠ .seq us n) → o.data ≠ .fields #[] → H b = none := by
    intro b o e n1 n2
    cases q : H b with
    | none => rfl
    | some u =>
      rcases tracked b u q with ⟨rfl, _, _⟩ | ⟨p, hp, rfl, _⟩
      · rw [ha] at e
        cases e
        exact absurd rfl (n1 _ _)
      · rw [(tz p hp).empty] at e
        cases e
        exact absurd rfl n2
  have kept : ∀ {b : Addr} {o : Obj}, z.heap.get? b = some o → H b = none → (hidT z.heap H).get? b = some o := fun e n => hidT_get e n
  have nsOf : ∀ {b : Addr} {m : Str → Option Value}, z.heap.Ns b m → (hidT z.heap H).Ns b m := by
    rintro b m ⟨o, es, ep, e, d, r⟩
    exact ⟨o, es, ep, kept e (plainO e (fun us n q => by rw [d] at q; cases q) (fun q => by rw [d] at q; cases q)), d, r⟩
  have inB : K.In (hidT z.heap H) := by
    intro b o e
    refine kept (inK b o e) ?_
    cases q : H b with
    | none => rfl
    | some u =>
      rcases tracked b u q with ⟨rfl, no, _⟩ | ⟨p, hp, rfl, _⟩
      · rw [no] at e
        cases e
      · rw [(tz p hp).out] at e
        cases e
  have md : Mod K mg (hidT z.heap H) := ⟨inB, nsOf glo, ⟨mb, nsOf blt, boot⟩, by obtain ⟨mc, h1, h2⟩ := lim; exact ⟨mc, nsOf h1, h2⟩⟩
  have notDict : ∀ {b : Addr} {m : Str → Option Value} {o : Obj}, z.heap.Ns b m → z.heap.get? b = some o → (∃ es ep, o.data = .dict es ep) := by
    rintro b m o ⟨o', es, ep, e, d, _⟩ e2
    rw [e] at e2
    cases e2
    exact ⟨es, ep, d⟩
  have tb : ∀ p ∈ cs, TabB (hidT z.heap H) mg p.1 p.2 := by
    intro p hp
    obtain ⟨m, o, b1, b2, b3, b4, b5, b6⟩ := bmod
    have et := (tz p hp).empty
    refine ⟨?_, ⟨m, o, b1, b2, fun q => ?_, fun q => ?_, kept b3 (plainO b3 (fun us n q => by rw [b6] at q; cases q) (fun q => by rw [b6] at q; cases q)), b4, b5, b6⟩, fun q => ?_⟩
    · obtain ⟨oc, us, file, tf, flags, tg, inF, text, tt, e1, r1, r2, r3, rest⟩ := (tz p hp).head
      refine ⟨oc, us, file, tf, flags, tg, inF, text, tt, kept e1 (plainO e1 (fun us n q => by rw [r2] at q; cases q) (fun q => ?_)), r1, r2, r3, rest⟩
      rw [r2] at q
      cases q
      simp at r3
    · rw [q] at b3
      obtain ⟨es, ep, d⟩ := notDict glo b3
      rw [b6] at d
      cases d
    · rw [q, et] at b3
      cases b3
      cases b6
    · rw [← q] at et
      obtain ⟨es, ep, d⟩ := notDict glo et
      cases d
  have env : Env0 P w K mg (hidT z.heap H) callerA [] z H :=
    ⟨rfl, md, fun b o e => of_hidT e, Nat.le_of_eq (hidT_size _ _), trivial, (fun b hb => nomatch hb), ok, .of_eq bare⟩
  refine codeAny_mono ((F _ inB (nsOf glo) tb).goes callerA [] z H ⟨[.ref a], []⟩ [.ref a] [.ref a] _ _ ⟨room, rfl⟩ env (bind z (.ref a)) (.cons rfl .nil) (want H isT script)) ?_
  intro res s' h
  match res, h with
  | .error e, h => exact (none_out H e s' h).elim
  | .ok (.ret u), h =>
    obtain ⟨v, G, os, br, un, ok', rv, q⟩ := h
    have q' : v = .bl true := q
    subst q'
    have eu : u = Value.bool true := rv
    subst eu
    have step : ∀ b o, z.heap.get? b = some o → s'.heap.get? b = some o ∨ ∃ p ∈ cs, b = p.2 := by
      intro b o e
      cases hq : H b with
      | none => exact Or.inl (un.keep b o e hq (fun t => nomatch t) (fun t => nomatch t))
      | some t =>
        rcases tracked b t hq with ⟨rfl, _, ob, xs, rfl⟩ | ⟨p, hp, rfl, _⟩
        · have later := ok' b _ (un.frzs b ob _ hq)
          have now := ok b _ hq
          obtain ⟨g1, _⟩ := now
          obtain ⟨g2, _⟩ := later
          rw [e] at g1
          cases g1
          exact Or.inl g2
        · exact Or.inr ⟨p, hp, rfl⟩
    have grown : ∀ p ∈ cs, ∃ more : Array Value, s'.heap.get? p.2 = some { cls := .none, data := .fields more } := fun p hp => by
      obtain ⟨more, e⟩ := un.tbls p.2 #[] (isT p hp)
      exact ⟨_, ok' p.2 _ e⟩
    refine ⟨rfl, ⟨fun b o e => ?_, fun b o e => ?_⟩, os, br⟩
    · rcases step b o e with h | ⟨p, hp, rfl⟩
      · exact Or.inl h
      · obtain ⟨more, hm⟩ := grown p hp
        have et := (tz p hp).empty
        rw [et] at e
        cases e
        exact Or.inr (Or.inl ⟨((tz p hp).head.tab et).isCodeTable, rfl, #[], more, rfl, by rw [Array.empty_append]; exact hm⟩)
    · rcases step b o e with h | ⟨p, hp, rfl⟩
      · exact ⟨o, h⟩
      · obtain ⟨more, hm⟩ := grown p hp
        exact ⟨_, hm⟩
theorem law_walkT {l : PySem.W.OpenLaw} {n k : Nat} {q : Program} {loose : List Str} {XP : (Str → Option Value) → Heap → Prop} {YP : World → Heap → Prop} {d : DefRec} {K : Params → PySem.W.Frag} {CX : World → CXT} {x : Str}
    (most : l.most = some n) (small : n ≤ sizeLine) (plain : d.params.defaults = []) (room : Room k callerA) (inK : ∀ (w : World) (h : Heap), YP w h → (K w.params).In h)
    (F : ∀ (w : World) (mg : Str → Option Value) (fa : Addr) (h : Heap), YP w h → (K w.params).In h → h.Ns mainGlobals mg → mg d.name = some (.ref fa) →
      ∃ (fd : FuncData) (cs : List (Addr × Addr)) (sp : Sp), (∀ p ∈ cs, TabZ (K w.params) h p.1 p.2) ∧ (∀ (s : Shared) (u : Value), BindsTo s fd ⟨[u], []⟩ [(x, u)]) ∧
        (∀ (H : Hp) (a : Addr) (ns : List Int), ns.length ≤ n → (∀ p ∈ cs, H p.2 = some (.tbl #[])) → SqL (K w.params) H a (ns.map V.int) → sp [.ref a] H (fun v _ => v = .bl true) fun _ _ _ => False) ∧
        ∀ base : Heap, (K w.params).In base → base.Ns mainGlobals mg → (∀ p ∈ cs, TabB base mg p.1 p.2) → FnG l.prog w (K w.params) mg base (CX w) k fa fd [x] sp)
    (none_out : ∀ (w : World) (H : Hp) (s : Shared) (e : Value) (s' : Shared), CX w [] H s (fun _ _ _ => False) e s' → False) :
    PySem.W.WalkO q loose XP YP l.row.toRowW d [] (fun f vs => PySem.call f vs) := by
  refine Att.attach_callB most plain ?_
  intro w s₀ z mg mb fa o pm cd doc a vs ns G Y ho hd hcd hmg hobj hints hlen hbits hg
  obtain ⟨fd, cs, sp, tz, hb, want, hF⟩ := F w mg fa _ Y (inK w _ Y) G.T.g hmg
  exact law_endT (inK w _ Y) G.T.g G.T.b G.T.builtins G.T.nolimit hg tz G.T.bmain hobj hints (Nat.le_trans hlen small) room hF hb (fun H h1 h2 => want H a ns hlen h1 h2) fun H e s' => none_out w H z e s'
end G9

/-! What stays told while tables of code objects grow. -/
namespace G9
open PySem PySem.Spec PyProof.Rows L2 LamX
section
variable {K : PySem.W.Frag} {H G J : Hp} {d p a : Addr} {x v : V} {y : Str} {xs : List V} {u : HO}
theorem ext_of (s : Same H G) : ExtN H G := fun b o e _ => s b o e
theorem rd_ext (s : ExtN H G) (n : ∀ ps, u ≠ .tbl ps) (h : Rd H a u) : Rd G a u := by
  rcases h with h | ⟨o, h⟩
  · exact Or.inl (s _ _ h n)
  · exact Or.inr ⟨o, s _ _ h fun _ z => by cases z⟩
theorem sql_ext (s : ExtN H G) (h : SqL K H a xs) : SqL K G a xs := by
  rcases h with h | h
  · exact Or.inl (rd_ext s (fun _ z => by cases z) h)
  · exact Or.inr h
theorem sqt_ext (s : ExtN H G) (h : SqT K H a xs) : SqT K G a xs := by
  rcases h with h | h
  · exact Or.inl (rd_ext s (fun _ z => by cases z) h)
  · exact Or.inr h
mutual
theorem dp_ext (s : ExtN H G) : ∀ {v : V} {d : PyData}, Dp K H v d → Dp K G v d
  | _, _, .non => .non
  | _, _, .bl b => .bl b
  | _, _, .int i => .int i
  | _, _, .str x => .str x
  | _, _, .lst h r => .lst (sql_ext s h) (dps_ext s r)
  | _, _, .tup h r => .tup (sqt_ext s h) (dps_ext s r)
theorem dps_ext (s : ExtN H G) : ∀ {vs : List V} {ds : List PyData}, DpAll K H vs ds → DpAll K G vs ds
  | _, _, .nil => .nil
  | _, _, .cons h r => .cons (dp_ext s h) (dps_ext s r)
end
theorem ShwT.ext (s : ExtN H G) (h : ShwT K H v y) : ShwT K G v y := by
  rcases h with h | h | h | h | ⟨p, d, e, hd, r⟩ | ⟨p, kvs, ds, e, hd, r⟩
  · exact Or.inl h
  · exact Or.inr (Or.inl h)
  · exact Or.inr (Or.inr (Or.inl h))
  · exact Or.inr (Or.inr (Or.inr (Or.inl h)))
  · exact Or.inr (Or.inr (Or.inr (Or.inr (Or.inl ⟨p, d, e, dp_ext s hd, r⟩))))
  · exact Or.inr (Or.inr (Or.inr (Or.inr (Or.inr ⟨p, kvs, ds, e, s _ _ hd (fun _ z => by cases z), r⟩))))
theorem TyX_ext {t : Value} (s : ExtN H G) (h : TyX K H x t) : TyX K G x t := by
  have n : ∀ {b : Addr} {o : HO}, H b = some o → (∀ ps, o ≠ .tbl ps) → G b = some o := fun e n => s _ _ e n
  cases h with
  | base b =>
    cases b with
    | non => exact .base .non
    | bl b => exact .base (.bl b)
    | int i => exact .base (.int i)
    | str i => exact .base (.str i)
    | flt i => exact .base (.flt i)
    | lst e => exact .base (.lst (n e fun _ z => by cases z))
    | frz e => exact .base (.frz (n e fun _ z => by cases z))
    | tup e => exact .base (.tup (n e fun _ z => by cases z))
    | dK e => exact .base (.dK (n e fun _ z => by cases z))
    | dT e => exact .base (.dT (n e fun _ z => by cases z))
    | ins e c ha hn ht hm => exact .base (.ins (n e fun _ z => by cases z) c ha hn ht hm)
  | byt b => exact .byt b
  | set e => exact .set (n e fun _ z => by cases z)
  | kList e c => exact .kList e c
  | kTuple e c => exact .kTuple e c
  | kDict e c => exact .kDict e c
  | fTuple e => exact .fTuple (n e fun _ z => by cases z)
  | fDict e => exact .fDict (n e fun _ z => by cases z)
theorem NotStr.ext (s : ExtN H G) (h : NotStr K H x) : NotStr K G x := by
  obtain ⟨t, ty, k⟩ := h
  exact ⟨t, TyX_ext s ty, k⟩
theorem KindAt.ext (s : ExtN H G) (h : KindAt K H x) : KindAt K G x := by
  obtain ⟨t, m, ty⟩ := h
  exact ⟨t, m, TyX_ext s ty⟩
theorem none_ext (s : ExtN H G) (n : G p = none) : H p = none ∨ ∃ ps, H p = some (.tbl ps) := by
  cases e : H p with
  | none => exact Or.inl rfl
  | some o =>
    by_cases q : ∃ ps, o = .tbl ps
    · obtain ⟨ps, rfl⟩ := q
      exact Or.inr ⟨ps, rfl⟩
    · rw [s p o e fun ps z => q ⟨ps, z⟩] at n
      cases n
/-- a new thing, or one that H doesn't know, may be set -/
theorem ext_set {o : HO} (s : ExtN H G) (n : H p = none) : ExtN H (upd G p o) := fun b u e t => by
  rw [upd_ne (ne_of_none e n)]
  exact s b u e t
/-- no thing of H but a table perhaps -/
def NoH (H : Hp) (p : Addr) : Prop := ∀ u, H p = some u → ∃ ps, u = .tbl ps
theorem noH_of (s : ExtN H G) (n : G p = none) : NoH H p := fun u e => by
  rcases none_ext s n with h | ⟨ps, h⟩
  · rw [h] at e
    cases e
  · rw [h] at e
    exact ⟨ps, (Option.some.inj e).symm⟩
theorem ext_upd {o : HO} (s : ExtN H G) (n : NoH H p) : ExtN H (upd G p o) := fun b u e t => by
  have ne : b ≠ p := fun z => by
    obtain ⟨ps, h⟩ := n u (z ▸ e)
    exact t ps h
  rw [upd_ne ne]
  exact s b u e t
theorem tabs_same {T : List (Addr × Str)} (s : Same H G) (t : Tabs T H) : Tabs T G := t.ext s
/-- setting what is no table and no code object -/
theorem tabs_upd {T : List (Addr × Str)} {o o' : HO} (t : Tabs T H) (e : H p = some o) (n1 : ∀ ps, o ≠ .tbl ps) (n2 : ∀ c q, o ≠ CodeO c q) : Tabs T (upd H p o') := fun q hq => by
  obtain ⟨ps, h1, h2, h3⟩ := t q hq
  have ne : ∀ {b : Addr} {u : HO}, H b = some u → u ≠ o → upd H p o' b = some u := fun {b u} hb hu => by
    have : b ≠ p := fun z => by
      rw [z, e] at hb
      exact hu (Option.some.inj hb).symm
    rw [upd_ne this]
    exact hb
  refine ⟨ps, ne h1 (fun z => n1 ps z.symm), h2, fun pos cv hc => ?_⟩
  obtain ⟨c, e1, e2⟩ := h3 pos cv hc
  exact ⟨c, e1, ne e2 (fun z => n2 _ _ z.symm)⟩
theorem tabs_lst {T : List (Addr × Str)} {xs ys : List V} (t : Tabs T H) (e : H p = some (.lst xs)) : Tabs T (upd H p (.lst ys)) := tabs_upd t e (fun _ z => by cases z) (fun c q z => by
  unfold CodeO at z
  cases z)
end
end G9

/-! Odd values: data of moderate size whose text has plain signs. -/
namespace G9
open PySem PySem.Spec PyProof.Rows L2
open PySem.Builtin.Str in
theorem quote_two (x : Str) : reprQuote x = 34 ∨ reprQuote x = 39 := by
  unfold reprQuote
  split <;> simp
open PySem.Builtin.Str in
theorem char_ok34 : ∀ c : Fin 128, ((reprChar 34 c.val).all fun x => decide (x < 0x110000)) = true := by decide +kernel
open PySem.Builtin.Str in
theorem char_ok39 : ∀ c : Fin 128, ((reprChar 39 c.val).all fun x => decide (x < 0x110000)) = true := by decide +kernel
open PySem.Builtin.Str in
theorem fold_ok {q : Nat} (hq : q = 34 ∨ q = 39) : ∀ (l : List Nat) (acc : Array Nat), (∀ c ∈ l, c < 128) → (acc.all fun x => decide (x < 0x110000)) = true → ((l.foldl (fun out c => out ++ (reprChar q c).toArray) acc).all fun x => decide (x < 0x110000)) = true
  | [], _, _, h => h
  | c :: r, acc, hl, h => by
    rw [List.foldl_cons]
    refine fold_ok hq r _ (fun d hd => hl d (List.mem_cons_of_mem _ hd)) ?_
    rw [Array.all_append, h, Bool.true_and, List.all_toArray]
    have hc := hl c List.mem_cons_self
    rcases hq with rfl | rfl
    · exact char_ok34 ⟨c, hc⟩
    · exact char_ok39 ⟨c, hc⟩
open PySem.Builtin.Str in
theorem repr_ok {s : Str} (h : ∀ c ∈ s.cps.toList, c < 128) : PyData.strOk (reprText s) = true := by
  have hq := quote_two s
  unfold reprText
  show ((s.cps.foldl (fun out c => out ++ (reprChar (reprQuote s) c).toArray) #[reprQuote s]).push (reprQuote s)).all _ = true
  rw [Array.all_push, ← Array.foldl_toList, Bool.and_eq_true]
  refine ⟨fold_ok hq _ _ h ?_, ?_⟩
  · rcases hq with e | e <;> rw [e] <;> simp
  · rcases hq with e | e <;> rw [e] <;> simp
theorem ok_app {x y : Str} (hx : PyData.strOk x = true) (hy : PyData.strOk y = true) : PyData.strOk (x ++ y) = true := by
  unfold PyData.strOk at *
  show (x.cps ++ y.cps).all _ = true
  rw [Array.all_append, hx, hy]
  rfl
theorem sml_shwT {K : PySem.W.Frag} {H : Hp} {v : V} {d : PyData} {n m : Nat} (h : Dp K H v d) (s : Sml n m d) (hm : m ≤ 60) (hn : n + 1000 ≤ sizeLine) : ShwT K H v d.shown := by
  cases h with
  | non => exact Or.inr (Or.inr (Or.inl ⟨rfl, rfl⟩))
  | bl b => exact Or.inr (Or.inr (Or.inr (Or.inl ⟨b, rfl, by cases b <;> rfl⟩)))
  | int i => exact Or.inl ⟨i, rfl, of_decide_eq_true s.sh, rfl⟩
  | str x => exact Or.inr (Or.inl ⟨x, rfl, by have := s.ln; show (PyData.shown (.str x)).length + 1000 ≤ _; omega, rfl⟩)
  | lst a b => exact Or.inr (Or.inr (Or.inr (Or.inr (Or.inl ⟨_, _, rfl, .lst a b, s.sh, s.nd, Nat.le_trans s.dp hm, by have := s.ln; omega, rfl⟩))))
  | tup a b => exact Or.inr (Or.inr (Or.inr (Or.inr (Or.inl ⟨_, _, rfl, .tup a b, s.sh, s.nd, Nat.le_trans s.dp hm, by have := s.ln; omega, rfl⟩))))
/-- data that may be drawn: small, its text of plain signs -/
def okD (d : PyData) : Bool := d.showable && (!d.hasDict && (decide (d.depth ≤ 4) && (decide (d.shown.length ≤ 4000) && (d.canLay0 && PyData.strOk d.shown))))
theorem okD_sml {d : PyData} (h : okD d = true) : Sml 4000 4 d ∧ PyData.strOk d.shown = true := by
  unfold okD at h
  simp only [Bool.and_eq_true, Bool.not_eq_true', decide_eq_true_eq] at h
  exact ⟨⟨h.1, h.2.1, h.2.2.1, h.2.2.2.1, h.2.2.2.2.1⟩, h.2.2.2.2.2⟩
/-- told of a value that was made since H0, whatever happens to H0's objects -/
def NK (H0 G G' : Hp) : Prop := ∀ b o, H0 b = none → G b = some o → G' b = some o
def OddD (K : PySem.W.Frag) (H0 : Hp) (G : Hp) (v : V) : Prop := (∃ d, okD d = true ∧ (∀ G', NK H0 G G' → Dp K G' v d) ∧ ((∃ s, v = .str s) ∨ ∀ G', NK H0 G G' → NotStr K G' v)) ∨ ∃ p kvs ds, v = .ref p ∧ H0 p = none ∧ G p = some (.dK kvs) ∧ FlatD kvs ds ∧ (PyData.dict ds).showable = true ∧ (PyData.dict ds).depth ≤ 60 ∧ (PyData.dict ds).shown.length ≤ 4000 ∧ PyData.strOk (PyData.dict ds).shown = true
theorem NK.trans {H0 G G' G'' : Hp} (a : NK H0 G G') (b : NK H0 G' G'') : NK H0 G G'' := fun c o n e => b c o n (a c o n e)
theorem NK.of {H0 G G' : Hp} (s : Same G G') : NK H0 G G' := fun b o _ e => s b o e
theorem OddD.nk {K : PySem.W.Frag} {H0 G G' : Hp} {v : V} (s : NK H0 G G') (h : OddD K H0 G v) : OddD K H0 G' v := by
  rcases h with ⟨d, hd, k, ns⟩ | ⟨p, kvs, ds, e, n, g, r⟩
  · exact Or.inl ⟨d, hd, fun J sJ => k J (s.trans sJ), ns.imp id fun z J sJ => z J (s.trans sJ)⟩
  · exact Or.inr ⟨p, kvs, ds, e, n, s _ _ n g, r⟩
theorem OddD.shw {K : PySem.W.Frag} {H0 G : Hp} {v : V} (h : OddD K H0 G v) : ∃ y, ShwT K G v y ∧ PyData.strOk y = true := by
  rcases h with ⟨d, hd, k, _⟩ | ⟨p, kvs, ds, rfl, n, g, f, a1, a2, a3, a4⟩
  · obtain ⟨s, o⟩ := okD_sml hd
    exact ⟨_, sml_shwT (k G fun _ _ _ e => e) s (by omega) (by rw [sizeLine_eq]; omega), o⟩
  · exact ⟨_, Or.inr (Or.inr (Or.inr (Or.inr (Or.inr ⟨p, kvs, ds, rfl, g, f, a1, a2, by rw [sizeLine_eq]; omega, rfl⟩)))), a4⟩
theorem OddD.str {K : PySem.W.Frag} {H0 G : Hp} {v : V} (h : OddD K H0 G v) : (∃ s, v = .str s) ∨ NotStr K G v := by
  rcases h with ⟨d, hd, k, ns⟩ | ⟨p, kvs, ds, rfl, n, g, _⟩
  · exact ns.imp id fun z => z G fun _ _ _ e => e
  · exact Or.inr ⟨_, .base (.dK g), kit_ty (by decide +kernel)⟩
end G9

/-! Comprehensions that make new things, each told by its item; dict(rows of pairs). -/
namespace G9
open PySem PySem.Spec PyProof.Rows L2
theorem Bears.paired {Pr : V → Hp → V → Prop} (b : ∀ x, Bears (Pr x)) {G G' : Hp} {xs ws : List V} (m : ∀ x v, Pr x G v → Pr x G' v) (h : Paired (fun x w => Pr x G w) xs ws) : Paired (fun x w => Pr x G' w) xs ws := Paired.mono (fun x w a => m x w a) h
section
variable {K : PySem.W.Frag} {σ : L2.St} {H : Hp} {t : TT} {te tl : TE} {j : Nat} {Q : VK} {vs : List Nat}
theorem wlc_p {J : It} {xs : List V} {Gd : Hp → Prop} (w : Walk J xs.length Gd (YAt xs)) (stay : ∀ G, Same H G → Gd G) (short : xs.length ≤ 100000) (keep : V → Bool) (Pr : V → Hp → V → Prop) (bear : ∀ x, Bears (Pr x))
    (test : ∀ x ∈ xs, ∀ G, Same H G → ToB t ((wipe σ [j]).set j (some x)) G (keep x)) (val : ∀ x ∈ xs, keep x = true → ∀ G, Same H G → ToW te ((wipe σ [j]).set j (some x)) G (Pr x))
    (fin : ∀ D G ws, H D = none → Same H G → Paired (fun x w => Pr x G w) (xs.filter keep) ws → G D = some (.lst ws) → Q (.ref D) G) : WLc J (gName j) t te [j] σ Q H := by
  intro D hD
  refine lc_it w (fun i G => Same H G ∧ ∃ ws, G D = some (.lst ws) ∧ Paired (fun x w => Pr x G w) ((xs.take i).filter keep) ws) ⟨Same.upd0 hD, [], upd_same, by rw [List.take_zero]; exact .nil⟩ (fun i G _ p => stay G p.1) ?_ (fun G p => ?_)
  · rintro i x G G' hi ⟨sG, ws, gD, all⟩ y
    obtain ⟨rfl, hx⟩ := y
    have mem := List.mem_of_getElem? hx
    have tk := take_succ_of hx
    have up : ∀ {A B : Hp} {l : List V} {us : List V}, Same A B → Paired (fun x w => Pr x A w) l us → Paired (fun x w => Pr x B w) l us := fun s h => Paired.mono (fun x w a => (bear x).same _ _ _ s a) h
    refine s_name ⟨?_, ?_⟩
    · show (((σ.set j none).set j (some x)).set j none) = σ.set j none
      rw [List.set_set, List.set_set]
    refine test x mem _ sG _ fun G1 s1 => ?_
    cases hk : keep x with
    | false =>
      refine i_f rfl ⟨sG.trans s1, ws, s1 _ _ gD, ?_⟩
      rw [tk, List.filter_append, List.filter_cons, if_neg (by rw [hk]; exact Bool.false_ne_true), List.filter_nil, List.append_nil]
      exact up s1 all
    | true =>
      refine i_t rfl ?_
      refine val x mem hk _ (sG.trans s1) _ fun z G2 s2 pz => ?_
      have s02 := s1.trans s2
      have gD2 := s02 _ _ gD
      have lw := Paired.length all
      refine ⟨ws, gD2, ?_, Same.setNew (sG.trans s02) hD, ws ++ [z], upd_same, ?_⟩
      · have h1 : ((xs.take i).filter keep).length ≤ (xs.take i).length := List.length_filter_le _ _
        have h2 : (xs.take i).length ≤ xs.length := by rw [List.length_take]; omega
        rw [sizeLine_eq]
        omega
      · rw [tk, List.filter_append, List.filter_cons, if_pos hk, List.filter_nil]
        have set : ∀ (x' : V) u, Pr x' G2 u → Pr x' (upd G2 D (.lst (ws ++ [z]))) u := fun x' u p => (bear x').set _ _ _ _ _ gD2 (fun _ e => by cases e) p
        exact Paired.snoc (Paired.mono (fun x' u a => set x' u a) (up s02 all)) (set x z pz)
  · obtain ⟨sG, ws, gD, all⟩ := p
    rw [List.take_length] at all
    exact fin D G ws hD sG all gD
theorem l_lcTp {p : Addr} {xs : List V} (h : SqT K H p xs) (keep : V → Bool) (Pr : V → Hp → V → Prop) (bear : ∀ x, Bears (Pr x)) (short : xs.length ≤ 100000) (test : ∀ x ∈ xs, ∀ G, Same H G → ToB t ((wipe σ [j]).set j (some x)) G (keep x))
    (val : ∀ x ∈ xs, keep x = true → ∀ G, Same H G → ToW te ((wipe σ [j]).set j (some x)) G (Pr x)) (fin : ∀ D G ws, H D = none → Same H G → Paired (fun x w => Pr x G w) (xs.filter keep) ws → G D = some (.lst ws) → Q (.ref D) G) : TupLc K (gName j) t te [j] σ Q (.ref p) H :=
  ⟨p, rfl, ⟨xs, h⟩, wlc_p walk_tup (fun _ s => sqt_same s h) short keep Pr bear test val fin⟩
theorem l_lcKp {d : Addr} {kvs : List (Key × V)} {ti : TE} (hi : ∀ (od : Obj) (R : VK), R (.ref d) (locked H d od kvs) → ti σ (locked H d od kvs) R) (hd : H d = some (.dK kvs)) (keep : V → Bool) (Pr : V → Hp → V → Prop) (bear : ∀ x, Bears (Pr x)) (short : kvs.length ≤ 1000)
    (test : ∀ (od : Obj) k, k ∈ kvs.map (·.1) → ∀ G, Same (locked H d od kvs) G → ToB t ((wipe σ [j]).set j (some (kV k))) G (keep (kV k)))
    (val : ∀ (od : Obj) k, k ∈ kvs.map (·.1) → keep (kV k) = true → ∀ G, Same (locked H d od kvs) G → ToW te ((wipe σ [j]).set j (some (kV k))) G (Pr (kV k)))
    (fin : ∀ D G ws, H D = none → Same H G → Paired (fun x w => Pr x G w) ((kvs.map fun p => kV p.1).filter keep) ws → G D = some (.lst ws) → Q (.ref D) G) : tLockE (tLc (iKeys ti) (gName j) t te [j]) σ H Q := by
  refine ⟨d, .dK kvs, hd, trivial, fun od => hi od _ ⟨d, od, rfl, Or.inl ⟨kvs, upd_same, ?_⟩⟩⟩
  have lm : (kvs.map fun p => kV p.1).length = kvs.length := List.length_map _
  have w : Walk (Itk d od kvs) (kvs.map fun p => kV p.1).length (fun G => G d = some (.frz od (.dK kvs))) (YAt (kvs.map fun p => kV p.1)) := by
    rw [lm]
    refine walk_keys.mono (fun _ h => h) fun i H x H' hi _ y => ?_
    obtain ⟨rfl, k, v, hk, rfl⟩ := y
    refine ⟨rfl, ?_⟩
    rw [List.getElem?_map, hk]
    rfl
  have back : ∀ x ∈ kvs.map (fun p => kV p.1), ∃ k, k ∈ kvs.map (·.1) ∧ x = kV k := fun x hx => by
    obtain ⟨pp, hp, rfl⟩ := List.mem_map.mp hx
    exact ⟨pp.1, List.mem_map_of_mem hp, rfl⟩
  refine wlc_p (H := locked H d od kvs) (te := te) (t := t) (Q := fun v H' => H' d = some (.frz od (.dK kvs)) ∧ Q v (upd H' d (.dK kvs))) w (fun G s => at_lock s) (by omega) keep Pr bear (fun x hx G s => ?_) (fun x hx kp G s => ?_) (fun D G ws hD s en e => ?_)
  · obtain ⟨k, hk, rfl⟩ := back x hx
    exact test od k hk G s
  · obtain ⟨k, hk, rfl⟩ := back x hx
    exact val od k hk kp G s
  · have gd := at_lock s
    have hD' : upd H d (.frz od (.dK kvs)) D = none := hD
    have nD : D ≠ d := fun z => by
      rw [z, upd_same] at hD'
      cases hD'
    refine ⟨gd, fin D _ ws ?_ (unlock hd s) (Paired.mono (fun x u p => (bear x).set _ _ _ _ _ gd (fun _ z => by cases z) p) en) (by rw [upd_ne nD]; exact e)⟩
    rw [upd_ne nD] at hD'
    exact hD'
/-- dict(rows), rows of pairs -/
def rDictP (K : PySem.W.Frag) : List V → Hp → VK → Prop := fun xs H Q => ∃ (a : Addr) (ps : List Addr) (kvs : List (Key × V)), xs = [.ref a] ∧ SqL K H a (ps.map V.ref) ∧ Paired (fun p kv => SqT K H p [kV kv.1, kv.2]) ps kvs ∧ ∀ p, H p = none → Q (.ref p) (upd H p (.dK (mergeK [] kvs)))
theorem c_dictP {X : Cx} (hc : X.calm = true) : CallR X (.type "dict") (rDictP X.K) := call_dictP hc
/-- a pair (a text, v) in a tuple -/
def PairT (Pv : Str → Hp → V → Prop) : V → Hp → V → Prop := fun x G w => ∃ t s v, x = .str s ∧ w = .ref t ∧ G t = some (.tup [.str s, v]) ∧ Pv s G v
theorem pairT_bears {Pv : Str → Hp → V → Prop} (b : ∀ s, Bears (Pv s)) (x : V) : Bears (PairT Pv x) := ⟨fun G G' w s ⟨t, z, v, e1, e2, e3, e4⟩ => ⟨t, z, v, e1, e2, s _ _ e3, (b z).same _ _ _ s e4⟩, fun G D o o' w hD no ⟨t, z, v, e1, e2, e3, e4⟩ => by
  have n1 : t ≠ D := fun q => by
    rw [q, hD] at e3
    exact no _ (Option.some.inj e3)
  exact ⟨t, z, v, e1, e2, by rw [upd_ne n1]; exact e3, (b z).set _ _ _ _ _ hD no e4⟩⟩
theorem pairs_list (K : PySem.W.Frag) {Pv : Str → Hp → V → Prop} {G : Hp} : ∀ {ss : List Str} {ws : List V}, Paired (fun x w => PairT Pv x G w) (ss.map V.str) ws → ∃ (ps : List Addr) (kvs : List (Key × V)), ws = ps.map V.ref ∧ Paired (fun p kv => SqT K G p [kV kv.1, kv.2]) ps kvs ∧ Paired (fun (s : Str) (kv : Key × V) => kv.1 = .inr s ∧ Pv s G kv.2) ss kvs
  | [], [], _ => ⟨[], [], rfl, .nil, .nil⟩
  | [], _ :: _, h => nomatch h
  | _ :: _, [], h => nomatch h
  | s :: ss, w :: ws, .cons a r => by
    obtain ⟨t, z, v, e1, e2, e3, e4⟩ := a
    obtain ⟨ps, kvs, h1, h2, h3⟩ := pairs_list K r
    cases e1
    subst e2
    exact ⟨t :: ps, (.inr s, v) :: kvs, by rw [h1]; rfl, .cons (tup_at e3) h2, .cons ⟨rfl, e4⟩ h3⟩
theorem l_dictP {a : Addr} {ps : List Addr} {kvs : List (Key × V)} (h : SqL K H a (ps.map V.ref)) (r : Paired (fun p kv => SqT K H p [kV kv.1, kv.2]) ps kvs) (q : ∀ p G, H p = none → Same H G → G p = some (.dK (mergeK [] kvs)) → Q (.ref p) G) : rDictP K [.ref a] H Q := ⟨a, ps, kvs, rfl, h, r, fun p n => q p _ n (same0 n) upd_same⟩
end
end G9

/-! list(d); new dicts, read step by step. -/
namespace G9
open PySem PySem.Spec PyProof.Rows L2
def rListK : List V → Hp → VK → Prop := fun xs H Q => ∃ (a : Addr) (kvs : List (Key × V)), xs = [.ref a] ∧ Rd H a (.dK kvs) ∧ ∀ p, H p = none → Q (.ref p) (upd H p (.lst (kvs.map fun kv => kV kv.1)))
theorem c_listD {X : Cx} (hc : X.calm = true) : CallR X (.type "list") rListK := call_listD hc
section
variable {H : Hp} {Q : VK} {a : Addr} {kvs : List (Key × V)} {σ : L2.St}
theorem l_listK (h : Rd H a (.dK kvs)) (q : ∀ p G, H p = none → Same H G → G p = some (.lst (kvs.map fun kv => kV kv.1)) → Q (.ref p) G) : rListK [.ref a] H Q := ⟨a, kvs, rfl, h, fun p n => q p _ n (same0 n) upd_same⟩
theorem l_dnew (q : ∀ p G, H p = none → Same H G → G p = some (.dK []) → Q (.ref p) G) : tDNewK σ H Q := fun p n => q p _ n (same0 n) upd_same
end
end G9

/-! x != y, x of a class with an __eq__ of its own and object's __ne__. -/
namespace G9
open PySem PySem.Spec PyProof.Rows L2
section
variable {M : Model} {prog : Program} {w : World} {A : Around} {E : Value → Shared → Prop} {s : Shared} {K : PySem.W.Frag} {x C f : Addr} {ox : Obj} {od : Option Obj} {b tb : Value}
theorem obj_ne (X : K.In s.heap) (I : PySem.W.InstAt s.heap x ox C od) (hs : PySem.W.findIn K (.ref C) "__eq__" = some (some (.ref f))) (hf : PySem.W.isFn K (.ref f) = true) (hu : A.units < cLine) {Q : Fin → Shared → Prop}
    (h : wpAny M A (call (.ref f) [.ref x, b]) (fun v s' => ∃ c, v = .bool c ∧ Q (.done (.ret (.bool (!c)))) s') E s) : wpAny M A (Builtin.«object.__ne__» ⟨[.ref x, b], []⟩) Q E s := by
  unfold Builtin.«object.__ne__»
  repeat (first
    | with_reducible refine wpAny_cRoomFor hu ?_
    | (refine wpAny_bind (m := callSpecialIfBound? (.ref x) (Str.ofString "__eq__") [b]) (PySem.W.ifBound_K X I hs hf (wpAny_mono h (fun r s' hr => ?_) fun _ _ e => e))
       obtain ⟨c, rfl, hq⟩ := hr
       repeat (first | exact hq | exact wpAny_pure hq | exact wpAny_truthy_bool hq | (refine wpAny_bind (m := truthy (.bool _)) (wpAny_truthy_bool ?_)) | wp_step))
    | wp_step)
theorem at_ne {args : List Value} {Q : Option Value → Shared → Prop} (X : K.In s.heap) (I : PySem.W.InstAt s.heap x ox C od) (hs : PySem.W.findIn K (.ref C) "__ne__" = some (some (.builtin "object.__ne__")))
    (h : wpAny M A (call (.builtin "object.__ne__") (.ref x :: args)) (fun v => Q (some v)) E s) : wpAny M A (callSpecialIfBound? (.ref x) "__ne__" args) Q E s := by
  simp only [callSpecialIfBound?, bindSpecialIfBound?]
  refine wpAny_holding (wpAny_bind (wpAny_bind (wpAny_bind (I.type.here ((PySem.W.looks_findIn X hs).here ?_)))))
  refine wpAny_bind (wpAny_askSetting (wpAny_ite ?_))
  have fin : wpAny M A (call (.builtin "object.__ne__") ([.ref x] ++ args) >>= fun v => pure (some v)) Q E s := wpAny_bind (wpAny_mono h (fun v s' z => wpAny_pure z) fun _ _ z => z)
  split
  · exact wpAny_bind (wpAny_of_eq (F.cmp_object.ne.bind _) (wpAny_pure (by exact fin)))
  · exact wpAny_tryCatch (wpAny_bind (wpAny_of_eq (F.cmp_object.ne.bind _) (wpAny_pure (by exact fin))))
theorem ne_own {Q : Value → Shared → Prop} (hu : A.units + 1 < cLine) (X : K.In s.heap) (I : PySem.W.InstAt s.heap x ox C od) (hb : PySem.W.Looks (model prog w) s.heap (typeOf b) tb) (hn : PySem.W.notFirst K C tb = true)
    (hm : PySem.W.mroIn K C (.type "object") = some true) (hne : PySem.W.findIn K (.ref C) "__ne__" = some (some (.builtin "object.__ne__")))
    (hs : PySem.W.findIn K (.ref C) "__eq__" = some (some (.ref f))) (hf : PySem.W.isFn K (.ref f) = true)
    (h : wpAny (model prog w) A.in1 (call (.ref f) [.ref x, b]) (fun v s' => ∃ c, v = .bool c ∧ Q (.bool (!c)) s') E s) : wpAny (model prog w) A (compareOp .NotEq (.ref x) b) Q E s := by
  have one : wpAny (model prog w) A (tryCompare (.ref x) "__ne__" b) (fun r s' => ∃ c, r = some (.bool c) ∧ Q (.bool c) s') E s := by
    unfold tryCompare
    refine wpAny_bind (at_ne X I hne (wpAny_call (codeAny_call_builtin F.cmp_object.ne.plain F.cmpEntry_ne (PySem.W.check_slot F.cmpKind_ne F.cmpSplit_ne (I.type.andThen (PySem.W.looks_mroIn X hm)) (F.cmpArgs_ne _ _) (obj_ne (A := A.in1) X I hs hf hu (wpAny_mono h (fun v s' hv => ?_) fun _ _ e => e))))))
    obtain ⟨c, rfl, hq⟩ := hv
    first | exact ⟨c, rfl, wpAny_pure ⟨_, rfl, hq⟩⟩ | exact ⟨c, rfl, ⟨_, rfl, hq⟩⟩
  unfold compareOp
  unfold richCompare
  simp only [oneThing_ref]
  refine wpAny_holding (wpAny_bind (wpAny_cRoomFor (Nat.lt_of_succ_lt hu) ?_))
  rw [cmpInfo_NotEq]
  dsimp only
  refine wpAny_bind (I.type.here (wpAny_bind (hb.here ?_)))
  split
  · rename_i q
    have e : PySem.W.subIn K tb (.ref C) = some false := by
      rcases Bool.or_eq_true_iff.mp hn with e | e
      · rw [beq_iff_eq.mp e] at q; simp at q
      · exact beq_iff_eq.mp e
    refine wpAny_bind ((PySem.W.looks_subIn X e).here ?_)
    simp only [Bool.false_eq_true, if_false]
    refine wpAny_bind (wpAny_mono one (fun r s' z => ?_) fun _ _ e => e)
    obtain ⟨c, rfl, hq⟩ := z
    exact wpAny_pure hq
  · refine wpAny_bind (wpAny_pure ?_)
    simp only [Bool.false_eq_true, if_false]
    refine wpAny_bind (wpAny_mono one (fun r s' z => ?_) fun _ _ e => e)
    obtain ⟨c, rfl, hq⟩ := z
    exact wpAny_pure hq
end
/-- a class with object's own __ne__ -/
structure DunNe (K : PySem.W.Frag) (C : Addr) : Prop where
  has : PySem.W.findIn K (.ref C) "__ne__" = some (some (.builtin "object.__ne__"))
  obj : PySem.W.mroIn K C (.type "object") = some true
section
variable {X : Cx} {CX : CXT} {k : Nat} {f C : Addr} {fd : FuncData} {ps : List Str} {sp : Sp} {E : XK}
def rOwnNe (K : PySem.W.Frag) (C : Addr) (sp : Sp) (E : XK) : R2 := fun x y H Q => ∃ t, TyX K H y t ∧ PySem.W.notFirst K C t = true ∧ OwnCall C sp E x [y] H fun v G => ∃ b, v = .bl b ∧ Q (.bl (!b)) G
theorem op_ownNe (N : DunNe X.K C) (D : Dun X.K C "__eq__" f) (F : FnG X.prog X.w X.K X.mg X.base CX k f fd ps sp) (room : RoomG (k + 1) X.A) (hb : Binds X.K fd ps []) (hx : Passes CX X E) : OpR X (compareOp .NotEq) (rOwnNe X.K C sp E) := by
  intro pins s σ H x y v u Q I rx ry h
  obtain ⟨t, ty, nf, a, dx, fs, rfl, ea, q⟩ := h
  obtain rfl : v = Value.ref a := rx
  obtain ⟨mA, O, _⟩ := ins_get I.hok ea
  obtain ⟨od, J, _⟩ := O.look
  refine ne_own (by have := room.r.un; omega) I.kIn J (looks_ty I ry ty) nf N.obj N.has D.here D.isf (thn (calleeA (A := X.A.in1) rfl F room.in1 hb .nil hx I (.cons (rv_ref a) (.cons ry .nil)) q) fun r z hz => ?_)
  obtain ⟨w1, H1, I1, rw1, b, rfl, q1⟩ := hz
  obtain rfl : r = Value.bool b := rw1
  exact ⟨b, rfl, .bl (!b), H1, I1, rfl, q1⟩
end
end G9

/-! x = [.. for k in d if ..], d a dict; list(d.items()); l + m. -/
namespace G9
open PySem PySem.Spec PyProof.Rows L2
section
variable {K : PySem.W.Frag} {σ : L2.St} {H : Hp} {Q : VK} {D : Ends} {t : TE} {i : Nat}
theorem s_setLcK (q : tLockE t σ H fun v G => D.nx (σ.set i (some v)) G) : tLock (tAsg t (gName i)) D σ H := q
/-- list(d.items()) -/
theorem s_listI {te : TE} (q : te σ H fun x G => LiI.rItemsL x G Q) : LiI.tListItems te σ H Q := q
theorem paired_imp {α β : Type} {F R : α → β → Prop} (h : ∀ a b, F a b → R a b) : ∀ {l : List α} {m : List β}, Paired F l m → Paired R l m
  | [], [], .nil => .nil
  | _ :: _, _ :: _, .cons a t => .cons (h _ _ a) (paired_imp h t)
theorem paired_app {α β : Type} {F : α → β → Prop} : ∀ {l : List α} {m : List β} {l2 : List α} {m2 : List β}, Paired F l m → Paired F l2 m2 → Paired F (l ++ l2) (m ++ m2)
  | [], [], _, _, .nil, b => b
  | _ :: _, _ :: _, _, _, .cons a t, b => .cons a (paired_app t b)
theorem l_listI {d : Addr} {kvs : List (Key × V)} (hd : H d = some (.dK kvs)) (q : ∀ p ts G, H p = none → Same H G → G p = some (.lst (ts.map V.ref)) → Paired (fun (t : Addr) (e : Key × V) => SqT K G t [kV e.1, e.2]) ts kvs → Q (.ref p) G) : LiI.rItemsL (.ref d) H Q :=
  ⟨d, kvs, rfl, hd, fun G p ts g n _ _ e r => q p ts G n g e (paired_imp (fun _ _ z => tup_at z) r)⟩
end
end G9

/-! How the sort compares pairs (a text, v), each text once. -/
namespace G9
open PySem PySem.W PySem.Spec PyProof.Rows L2
section
variable {prog : Program} {w : World} {A : Around} {E : Value → Shared → Prop} {s : Shared}
/-- u is a tuple: the text y, then v -/
def PairS (h : Heap) (u : Value) (y : Str) (v : Value) : Prop := ∃ a t, u = .ref a ∧ IsTup h a #[.str y t, v]
/-- the first item of a tuple, where it is a text -/
def headS (h : Heap) (u : Value) : Str := DT.txOf (DT.seqAt0 h (DT.refOf (some u)))
theorem PairS.head {h : Heap} {u : Value} {y : Str} {v : Value} (p : PairS h u y v) : headS h u = y := by
  obtain ⟨a, t, rfl, e⟩ := p
  show DT.txOf (DT.seqAt0 h a) = y
  rw [DT.seqAt0_of e]
  rfl
theorem heads_of {h : Heap} : ∀ vs : List Value, (∀ u ∈ vs, ∃ y v, PairS h u y v) → ∃ fs : List Value, KatTups h vs fs ∧ fs.length = vs.length ∧ ∀ f ∈ fs, ∃ y t, f = Value.str y t
  | [], _ => ⟨[], KatTups.nil, rfl, fun _ m => nomatch m⟩
  | u :: us, p => by
    obtain ⟨fs, k, len, all⟩ := heads_of us fun x m => p x (List.mem_cons_of_mem _ m)
    obtain ⟨y, v, a, t, rfl, o, ho, hc, n, hd⟩ := p u List.mem_cons_self
    refine ⟨.str y t :: fs, KatTups.cons ho hc hd rfl k, congrArg (· + 1) len, fun f m => ?_⟩
    rcases List.mem_cons.mp m with e | m
    · exact ⟨y, t, e⟩
    · exact all f m
theorem kind_sv {vs : List Value} {ρ : Str → Int} (ne : 0 < vs.length) (x : ∀ u ∈ vs, ∃ y v, PairS s.heap u y v) (one : ∀ u ∈ vs, ∀ z ∈ vs, headS s.heap u = headS s.heap z → u = z)
    (rank : ∀ u ∈ vs, ∀ z ∈ vs, decide ((headS s.heap u).cps.toList < (headS s.heap z).cps.toList) = decide (ρ (headS s.heap u) < ρ (headS s.heap z))) (Q : SortKind → Shared → Prop)
    (h : ∀ κ, TS.Cmp prog w A s κ (pairsOf vs) (fun u => ρ (headS s.heap u)) → Q κ s) : wpAny (model prog w) A (keyKind' vs.toArray) Q E s := by
  obtain ⟨fs, k, len, all⟩ := heads_of vs x
  refine kat_kind (T := Value.type "str") k (by omega) (fun f m => ?_) rfl (h _ ?_)
  · obtain ⟨y, t, rfl⟩ := all f m
    exact PySem.W.Looks.now
  · intro p q hp hq Q' E' hQ
    rw [pairsOf_toList] at hp hq
    have mp := (mem_zip_self hp).2
    have mq := (mem_zip_self hq).2
    have rk := rank _ mp _ mq
    have un := one _ mp _ mq
    obtain ⟨y, v, pp⟩ := x _ mp
    obtain ⟨z, v', pq⟩ := x _ mq
    replace hQ : Q' (decide (ρ (headS s.heap p.1) < ρ (headS s.heap q.1))) s := hQ
    rw [← rk] at hQ
    rw [pp.head, pq.head] at hQ un
    obtain ⟨a, t, e1, i1⟩ := pp
    obtain ⟨b, t', e2, i2⟩ := pq
    obtain ⟨o, ho, hc, n, hd⟩ := i1
    obtain ⟨o', ho', hc', n', hd'⟩ := i2
    rw [e1, e2] at un ⊢
    refine kat_lt ho hd ho' hd' ?_
    show KatLex prog w A true false Q' [(Value.str y t, Value.str z t'), (v, v')] 0 s
    refine kat_cons (SeqAt.EqAt.str_str y t z t' prog w _ _ ?_)
    refine kat_go (fun e => ?_) (fun e => ?_)
    · obtain rfl : y = z := eq_of_beq e
      cases un rfl
      cases ho.symm.trans ho'
      have ev : v = v' := by
        have := hd.symm.trans hd'
        injection this with e3
        injection e3 with e4
        injection e4 with _ e5
        injection e5
      cases ev
      refine kat_yes (kat_cons (SeqAt.EqAt.same v prog w _ _ ?_))
      refine kat_go (fun _ => ?_) (fun e0 => nomatch e0)
      refine kat_yes (kat_nil ?_)
      rw [show decide (y.cps.toList < y.cps.toList) = false from decide_eq_false (List.lt_irrefl _)] at hQ
      exact hQ
    · exact kat_no (oneLt_str hQ)
end
end G9

/-! sorted(d.items()), d a dict of texts. -/
namespace G9
open PySem PySem.Spec PyProof.Rows L2
section
variable {X : Cx}
/-- d.items() -/
def rItemsK : V → List V → Hp → VK → Prop := fun x xs H Q => ∃ (d : Addr) (kvs : List (Key × V)), x = .ref d ∧ xs = [] ∧ H d = some (.dK kvs) ∧ ∀ p, H p = none → Q (.ref p) (upd H p (DX.itemsO p d))
theorem mt_itemsK : MtR X "dict.items" rItemsK := by
  intro pins s σ H x xs v us Q I rx rxs h
  obtain ⟨d, kvs, rfl, rfl, hd, q⟩ := h
  obtain rfl : v = Value.ref d := rx
  cases rxs
  obtain ⟨_, nosys, vs, _, o, es, ep, ho, ex, dat, _⟩ := (show ObjOk X.prog X.w H s.heap d (.dK kvs) from I.hok d _ hd)
  refine DT.callItems (es := es) (ep := ep) nosys ⟨o, ho, ex, dat⟩ ?_
  have new : H s.heap.objs.size = none := I.hok.fresh (Nat.le_refl _)
  refine ⟨.ref s.heap.objs.size, upd H s.heap.objs.size (DX.itemsO s.heap.objs.size d), ?_, rfl, q _ new⟩
  exact I.laid (t' := s.toks) (fun _ _ e => Heap.get?_push_of_some _ e) (Nat.le_refl _) (DX.itemsO_ok (Heap.get?_push_size _ rfl))
abbrev entS (e : Str × V) : Key × V := (.inr e.1, e.2)
theorem pairs_at {P : Program} {w : World} {es : List DictEntry} {vs : List (Key × Value)} {ks : List (Str × V)} (r : Pairs (mixKind P w) es vs) (kv : KV (ks.map entS) vs) {j : Nat} {en : DictEntry} (h : es[j]? = some en) : ∃ e t, ks[j]? = some e ∧ en.key = .str e.1 t ∧ RelV e.2 en.val := by
  have len : es.length = vs.length := r.length
  have lj : j < vs.length := by
    rw [← len]
    exact (List.getElem?_eq_some_iff.mp h).1
  obtain ⟨⟨k, v⟩, hk⟩ : ∃ q, vs[j]? = some q := ⟨_, List.getElem?_eq_getElem lj⟩
  obtain ⟨i1, i2⟩ := r.get? h hk
  obtain ⟨q, hq, a, b⟩ := DX.pget kv hk
  rw [List.getElem?_map] at hq
  cases he : ks[j]? with
  | none => rw [he] at hq; exact nomatch hq
  | some e =>
    rw [he] at hq
    obtain rfl : entS e = q := Option.some.inj hq
    have ki : keyIs (Sum.inr e.1) en.key = true := by
      have z := i1
      rw [← show Sum.inr e.1 = k from a] at z
      exact z
    have rk := relV_key ki
    obtain ⟨t, ht⟩ := rk
    exact ⟨e, t, rfl, ht, by rw [i2]; exact b⟩
end
end G9

/-! sorted(d.items()), d a dict of texts: the rule. -/
namespace G9
open PySem PySem.Spec PyProof.Rows L2
/-! ### a rank of texts: how many of some stand ahead -/
def rankS (l : List Str) (s : Str) : Int := ((l.countP fun k => decide (k.cps.toList < s.cps.toList) : Nat) : Int)
theorem cnt_le {α : Type} {p q : α → Bool} : ∀ {l : List α}, (∀ x ∈ l, p x = true → q x = true) → l.countP p ≤ l.countP q
  | [], _ => Nat.le_refl _
  | a :: r, h => by
    have t := cnt_le (l := r) fun x hx => h x (List.mem_cons_of_mem _ hx)
    have ha := h a List.mem_cons_self
    rw [List.countP_cons, List.countP_cons]
    cases hp : p a with
    | false => cases q a <;> simp <;> omega
    | true =>
      rw [ha hp]
      omega
theorem cnt_lt {α : Type} {p q : α → Bool} {y : α} : ∀ {l : List α}, (∀ x ∈ l, p x = true → q x = true) → y ∈ l → p y = false → q y = true → l.countP p < l.countP q
  | [], _, m, _, _ => nomatch m
  | a :: r, h, m, hp, hq => by
    have ha := h a List.mem_cons_self
    rw [List.countP_cons, List.countP_cons]
    rcases List.mem_cons.mp m with e | m
    · have t := cnt_le (l := r) fun x hx => h x (List.mem_cons_of_mem _ hx)
      rw [← e, hp, hq]
      simp
      omega
    · have t := cnt_lt (l := r) (fun x hx => h x (List.mem_cons_of_mem _ hx)) m hp hq
      cases hpa : p a with
      | false => cases q a <;> simp <;> omega
      | true =>
        rw [ha hpa]
        omega
theorem lt_ltS {x y : Str} : (decide (x.cps.toList < y.cps.toList) = true) ↔ ltS x y := by
  rw [dec_lt, decide_eq_true_eq]
theorem ltS_of_not {x y : Str} (h : ¬ ltS x y) : leS y x := by
  show ltCps x.cps.toList y.cps.toList = false
  cases q : ltCps x.cps.toList y.cps.toList with
  | false => rfl
  | true => exact absurd (show ltS x y from q) h
theorem rank_ok {l : List Str} {x y : Str} (hx : x ∈ l) : decide (x.cps.toList < y.cps.toList) = decide (rankS l x < rankS l y) := by
  by_cases h : ltS x y
  · rw [lt_ltS.mpr h]
    refine (decide_eq_true ?_).symm
    unfold rankS
    have := cnt_lt (l := l) (p := fun k => decide (k.cps.toList < x.cps.toList)) (q := fun k => decide (k.cps.toList < y.cps.toList)) (y := x) (fun z _ hz => lt_ltS.mpr (ltS_trans (lt_ltS.mp hz) h)) hx (by
      cases e : decide (x.cps.toList < x.cps.toList) with
      | false => rfl
      | true => exact absurd (lt_ltS.mp e) (ltS_irrefl x)) (lt_ltS.mpr h)
    omega
  · have e0 : decide (x.cps.toList < y.cps.toList) = false := by
      cases e : decide (x.cps.toList < y.cps.toList) with
      | false => rfl
      | true => exact absurd (lt_ltS.mp e) h
    rw [e0]
    refine (decide_eq_false ?_).symm
    unfold rankS
    have := cnt_le (l := l) (p := fun k => decide (k.cps.toList < y.cps.toList)) (q := fun k => decide (k.cps.toList < x.cps.toList)) (fun z _ hz => by
      refine lt_ltS.mpr ?_
      have a := lt_ltS.mp hz
      rcases leS_iff.mp (ltS_of_not h) with b | b
      · exact ltS_trans a b
      · rw [← b]
        exact a)
    omega
theorem rank_le {l : List Str} {x y : Str} (hy : y ∈ l) (h : rankS l x ≤ rankS l y) : leS x y := by
  refine ltS_of_not fun c => ?_
  have e := rank_ok (l := l) (x := y) (y := x) hy
  rw [lt_ltS.mpr c] at e
  have := of_decide_eq_true e.symm
  omega
section
variable {X : Cx}
theorem dk_raw {pins : List (Addr × Obj)} {σ : L2.St} {H : Hp} {s : Shared} {a : Addr} {ks : List (Str × V)} (I : Inv X pins σ H s) (ha : H a = some (.dK (ks.map entS))) :
    ∃ es ep, DT.Raw s.heap a es ep ∧ es.size = ks.length ∧ (ks.map (·.1)).Nodup ∧ ∀ (j : Nat) (en : DictEntry), es[j]? = some en → ∃ e t, ks[j]? = some e ∧ en.key = .str e.1 t ∧ RelV e.2 en.val := by
  obtain ⟨_, nosys, vs, kv, o, es, ep, ho, ex, dat, _, pr, nd⟩ := (show ObjOk X.prog X.w H s.heap a (.dK (ks.map entS)) from I.hok a _ ha)
  refine ⟨es, ep, ⟨o, ho, ex, dat⟩, ?_, ?_, fun j en h => ?_⟩
  · have e1 := pr.length
    have e2 := KV.length kv
    rw [List.length_map] at e2
    rw [← Array.length_toList]
    omega
  · have e := KV.keys kv
    rw [← e, List.map_map] at nd
    have e3 : (ks.map ((·.1) ∘ entS)) = (ks.map (·.1)).map Sum.inr := by
      rw [List.map_map]
      rfl
    rw [e3] at nd
    unfold List.Nodup at nd ⊢
    rw [List.pairwise_map] at nd
    exact nd.imp fun h e => h (congrArg Sum.inr e)
  · refine pairs_at pr kv (j := j) (en := en) ?_
    rw [Array.getElem?_toList]
    exact h
/-- sorted(d.items()) -/
def rSortItK : List V → Hp → VK → Prop := fun vs H Q => ∃ (p a : Addr) (ks : List (Str × V)), vs = [.ref p] ∧ H p = some (DX.itemsO p a) ∧ H a = some (.dK (ks.map entS)) ∧ ks.length < 64 ∧
  ∀ (H' : Hp) (l : Addr) (ps : List (Addr × Str × V)), Same H H' → (ps.map (·.2)).Perm ks → (ps.map (·.2)).Pairwise (fun e f => leS e.1 f.1) → H' l = some (.lst (ps.map fun z => V.ref z.1)) →
    (∀ z ∈ ps, H' z.1 = some (.tup [.str z.2.1, z.2.2])) → Q (.ref l) H'
theorem call_sortedIt (hc : X.calm = true) : CallR X (.builtin "sorted") rSortItK := by
  intro pins s σ H xs us Q I r h
  obtain ⟨p, a, ks, rfl, hp, ha, h64, q⟩ := h
  obtain rfl := Vals.ref1 r
  have seen : s.heap.IsItemsView p a := (show ObjOk X.prog X.w H s.heap p (DX.itemsO p a) from I.hok p _ hp).1
  obtain ⟨es, ep, rawD, lk, ndk, pr0⟩ := dk_raw I ha
  have calmH : X.A.handled = none := I.ok.hd hc
  refine DT.sortedI (es := es) (ep := ep) calmH seen rawD (by rw [sizeLine_eq]; omega) fun h9 tk cells keepH ltC lenC made => ?_
  have lenAs : cells.length = ks.length := by omega
  have ndAs : cells.Nodup := List.Pairwise.imp (fun h => Nat.ne_of_lt h) made.rise
  have pr : ∀ (j : Nat) (b : Addr), cells[j]? = some b → ∃ (e : Str × V) (t : Tok) (u : Value), ks[j]? = some e ∧ RelV e.2 u ∧ h9.get? b = some { cls := .type "tuple", data := .seq #[Value.str e.1 t, u] } := by
    intro j b atC
    obtain ⟨ent, atE, hg⟩ := made.pairs j b atC
    obtain ⟨e, t, e1, f2, e3⟩ := pr0 j ent atE
    exact ⟨e, t, ent.val, e1, e3, by rw [hg, f2]⟩
  have laidL : (h9.push { cls := .type "list", data := .seq (cells.map Value.ref).toArray }).get? h9.objs.size = some (seqObj "list" (cells.map Value.ref).toArray 0) := Heap.get?_push_size _ rfl
  have oldB : ∀ b o, s.heap.get? b = some o → (h9.push { cls := .type "list", data := .seq (cells.map Value.ref).toArray }).get? b = some o := fun b o e => Heap.get?_push_of_some _ (keepH b o e)
  have notL : ∀ b o, h9.get? b = some o → b ≠ h9.objs.size := fun b o e => Nat.ne_of_lt (Heap.lt_size e)
  generalize eqL : h9.push { cls := .type "list", data := .seq (cells.map Value.ref).toArray } = hL at laidL oldB ⊢
  have madeB : ∀ b o, h9.get? b = some o → hL.get? b = some o := fun b o e => by rw [← eqL]; exact Heap.get?_push_of_some _ e
  have pinP : ∀ (j : Nat) (b : Addr), cells[j]? = some b → ∃ (e : Str × V) (u : Value), ks[j]? = some e ∧ PairS (TS.midHeap hL h9.objs.size (cells.map Value.ref)) (.ref b) e.1 u := by
    intro j b atC
    obtain ⟨e, t, u, atE, _, hg⟩ := pr j b atC
    exact ⟨e, u, atE, b, t, rfl, ⟨_, TS.midHeap_old (notL _ _ hg) (madeB _ _ hg), rfl, 0, rfl⟩⟩
  have txtOf : ∀ (j : Nat) (b : Addr) (e : Str × V), cells[j]? = some b → ks[j]? = some e → headS (TS.midHeap hL h9.objs.size (cells.map Value.ref)) (.ref b) = e.1 := by
    intro j b e atC atE
    obtain ⟨e9, u, atK, pairP⟩ := pinP j b atC
    have sameE : e9 = e := Option.some.inj (atK.symm.trans atE)
    rw [← sameE]
    exact pairP.head
  have atV : ∀ v ∈ cells.map Value.ref, ∃ (j : Nat) (b : Addr) (e : Str × V), v = .ref b ∧ cells[j]? = some b ∧ ks[j]? = some e := by
    intro v memV
    obtain ⟨b, memB, rfl⟩ := List.mem_map.mp memV
    obtain ⟨j, atC⟩ := List.mem_iff_getElem?.mp memB
    obtain ⟨e, _, _, atE, _⟩ := pr j b atC
    exact ⟨j, b, e, rfl, atC, atE⟩
  have memk : ∀ {j : Nat} {e : Str × V}, ks[j]? = some e → e.1 ∈ ks.map (·.1) := fun h => List.mem_map_of_mem (List.mem_of_getElem? h)
  refine wpAny_call_entry PyProof.Rows.slot_list_sort ⟨_, laidL, rfl⟩ PyProof.Rows.entry_list_sort
    (SK.plain_sort (s := { s with heap := hL, toks := tk }) (r := fun v => rankS (ks.map (·.1)) (headS (TS.midHeap hL h9.objs.size (cells.map Value.ref)) v)) laidL (by rw [List.length_map]; omega) (fun h2' Qk hQk => ?_) fun ps out q1 q2 q3 => ⟨.none, rfl, ?_⟩) (PyProof.Rows.args_list_sort _)
  · refine kind_sv (s := { s with heap := TS.midHeap hL h9.objs.size (cells.map Value.ref), toks := tk }) (ρ := rankS (ks.map (·.1))) (by omega) (fun v memV => ?_) (fun v memV u memU hq => ?_) (fun v memV u memU => ?_) Qk hQk
    · obtain ⟨j, b, e, rfl, atC, atE⟩ := atV v memV
      obtain ⟨e9, u, _, pairP⟩ := pinP j b atC
      exact ⟨e9.1, u, pairP⟩
    · obtain ⟨j, b, e, rfl, atC, atE⟩ := atV v memV
      obtain ⟨jj, c2, f2, rfl, atC2, atE2⟩ := atV u memU
      replace hq : headS (TS.midHeap hL h9.objs.size (cells.map Value.ref)) (.ref b) = headS (TS.midHeap hL h9.objs.size (cells.map Value.ref)) (.ref c2) := hq
      rw [txtOf j b e atC atE, txtOf jj c2 f2 atC2 atE2] at hq
      have k1 : (ks.map (·.1))[j]? = some e.1 := by rw [List.getElem?_map, atE]; rfl
      have k2 : (ks.map (·.1))[jj]? = some e.1 := by rw [List.getElem?_map, atE2, hq]; rfl
      have ej : j = jj := (List.getElem?_inj (List.getElem?_eq_some_iff.mp k1).1 ndk).mp (k1.trans k2.symm)
      subst ej
      rw [Option.some.inj (atC.symm.trans atC2)]
    · obtain ⟨j, b, e, rfl, atC, atE⟩ := atV v memV
      obtain ⟨jj, c2, f2, rfl, atC2, atE2⟩ := atV u memU
      show decide ((headS (TS.midHeap hL h9.objs.size (cells.map Value.ref)) (.ref b)).cps.toList < (headS (TS.midHeap hL h9.objs.size (cells.map Value.ref)) (.ref c2)).cps.toList) = decide (rankS (ks.map (·.1)) (headS (TS.midHeap hL h9.objs.size (cells.map Value.ref)) (.ref b)) < rankS (ks.map (·.1)) (headS (TS.midHeap hL h9.objs.size (cells.map Value.ref)) (.ref c2)))
      rw [txtOf j b e atC atE, txtOf jj c2 f2 atC2 atE2]
      exact rank_ok (memk atE)
  · show EP X pins σ Q (.ref h9.objs.size) { s with heap := sortedHeap hL h9.objs.size (cells.map Value.ref) out, toks := tk }
    obtain ⟨outZ, permZ, eqZ⟩ := L2.perm_lift (fun z : Addr × Str × V => (Value.ref z.1, Value.ref z.1)) q2 (cells.zip ks) (DX.zip_self Value.ref cells ks lenAs)
    have ixOf : ∀ z ∈ outZ, ∃ j : Nat, cells[j]? = some z.1 ∧ ks[j]? = some z.2 := by
      intro z' hz'
      obtain ⟨j, atC⟩ := List.mem_iff_getElem?.mp (permZ.mem_iff.mp hz')
      exact ⟨j, List.getElem?_zip_eq_some.mp atC⟩
    have outEq : out.toList = outZ.map fun z => Value.ref z.1 := by
      rw [q1, ← eqZ, List.map_map]
      all_goals rfl
    have outPerm : (outZ.map (·.2)).Perm ks := by
      have e := permZ.map (·.2)
      have m2 : (cells.zip ks).map (·.2) = ks := List.map_snd_zip (by rw [lenAs]; exact Nat.le_refl _)
      rw [m2] at e
      exact e
    have outSort : (outZ.map (·.2)).Pairwise (fun e f => leS e.1 f.1) := by
      rw [← eqZ, List.pairwise_map] at q3
      rw [List.pairwise_map]
      refine List.Pairwise.imp_of_mem (fun {x y} hx hy h => ?_) q3
      obtain ⟨j, j1, k2⟩ := ixOf x hx
      obtain ⟨i, i1, i2⟩ := ixOf y hy
      have h9 : rankS (ks.map (·.1)) (headS (TS.midHeap hL h9.objs.size (cells.map Value.ref)) (.ref x.1)) ≤ rankS (ks.map (·.1)) (headS (TS.midHeap hL h9.objs.size (cells.map Value.ref)) (.ref y.1)) := h
      rw [txtOf j _ _ j1 k2, txtOf i _ _ i1 i2] at h9
      exact rank_le (memk i2) h9
    have behind : ∀ b o, b ≠ h9.objs.size → hL.get? b = some o → (sortedHeap hL h9.objs.size (cells.map Value.ref) out).get? b = some o := fun b o memB e => (PyProof.Rows.sortedHeap_old memB (Heap.lt_size e)).trans e
    have behindS : ∀ b o, s.heap.get? b = some o → (sortedHeap hL h9.objs.size (cells.map Value.ref) out).get? b = some o := fun b o e => behind b o (notL _ _ (keepH b o e)) (oldB b o e)
    obtain ⟨capF, atF⟩ := PyProof.Rows.sortedHeap_at (vs := cells.map Value.ref) (out := out) laidL
    have W1 : Inv X pins σ H { s with heap := sortedHeap hL h9.objs.size (cells.map Value.ref) out, toks := tk } := I.kept (t' := tk) behindS
    have newL : H h9.objs.size = none := I.hok.fresh (Nat.le_of_lt ltC)
    have lenL : (outZ.map fun z => V.ref z.1).length ≤ sizeLine := by
      have e := outPerm.length_eq
      rw [List.length_map] at e
      rw [List.length_map, sizeLine_eq]
      omega
    have valsL : Vals (outZ.map fun z => V.ref z.1) out.toList := by
      rw [outEq]
      exact vals_maps (fun z : Addr × Str × V => V.ref z.1) (fun z => Value.ref z.1) outZ fun _ _ => rfl
    have W2 : Inv X pins σ (upd H h9.objs.size (.lst (outZ.map fun z => V.ref z.1))) { s with heap := sortedHeap hL h9.objs.size (cells.map Value.ref) out, toks := tk } :=
      W1.take (h' := sortedHeap hL h9.objs.size (cells.map Value.ref) out) (t' := tk) (fun b ob _ e => e) (I.fpOk (Nat.le_of_lt ltC) newL) ⟨lenL, out.toList, capF, valsL, atF⟩
    obtain ⟨H2, W3, g, took⟩ := DX.takeT (P := fun b vs => ∃ (j : Nat) (e : Str × V), cells[j]? = some b ∧ ks[j]? = some e ∧ vs = [.str e.1, e.2]) I cells _ W2 ndAs fun b memB => by
      obtain ⟨j, atC⟩ := List.mem_iff_getElem?.mp memB
      obtain ⟨e, t, u, atE, ru, hg⟩ := pr j b atC
      have lowB : s.heap.objs.size ≤ b := Nat.le_of_lt (made.above b memB)
      refine ⟨lowB, ?_, [.str e.1, e.2], ⟨j, e, atC, atE, rfl⟩, fun H3 => ⟨(by rw [sizeLine_eq]; show 2 ≤ 16777216; omega), [Value.str e.1 t, u], .cons ⟨t, rfl⟩ (.cons ru .nil), ⟨_, behind _ _ (notL _ _ hg) (madeB _ _ hg), rfl, 0, rfl⟩⟩⟩
      rw [upd_ne (notL _ _ hg)]
      exact I.hok.fresh lowB
    have grown : ∀ b o, H b = some o → H2 b = some o := fun b o e => g b o (by rw [upd_ne (ne_of_none e newL)]; exact e)
    refine ⟨.ref h9.objs.size, H2, W3, rfl, q H2 h9.objs.size outZ grown outPerm outSort (g _ _ upd_same) fun z' hz' => ?_⟩
    obtain ⟨i, i1, i2⟩ := ixOf z' hz'
    obtain ⟨vs, ⟨j, e, j1, k2, ev⟩, hH⟩ := took z'.1 (List.mem_of_getElem? i1)
    have sameIx : i = j := (List.getElem?_inj (List.getElem?_eq_some_iff.mp i1).1 ndAs).mp (i1.trans j1.symm)
    subst sameIx
    have sameE : e = z'.2 := Option.some.inj (k2.symm.trans i2)
    rw [ev, sameE] at hH
    exact hH
end
section
variable {K : PySem.W.Frag} {σ : L2.St} {H : Hp} {Q : VK} {te : TE} {d p : Addr} {kvs : List (Key × V)} {ks : List (Str × V)}
def LItems (K : PySem.W.Frag) (x : V) (H : Hp) (Q : VK) : Prop := tyV K "dict" x H ∧ rItemsK x [] H Q
theorem s_itemsK (q : te σ H fun x H1 => LItems K x H1 Q) : tBM0 K "dict" rItemsK te σ H Q := q
theorem l_itemsK (hd : H d = some (.dK kvs)) (q : ∀ p G, H p = none → Same H G → G p = some (DX.itemsO p d) → Q (.ref p) G) : LItems K (.ref d) H Q :=
  ⟨Or.inr (Or.inr (Or.inl ⟨rfl, Or.inl ⟨kvs, hd⟩⟩)), d, kvs, rfl, rfl, hd, fun p n => q p _ n (same0 n) upd_same⟩
theorem l_sortIt (hp : H p = some (DX.itemsO p d)) (hd : H d = some (.dK (ks.map entS))) (h64 : ks.length < 64)
    (q : ∀ (l : Addr) (G : Hp) (ps : List (Addr × Str × V)), Same H G → (ps.map (·.2)).Perm ks → (ps.map (·.2)).Pairwise (fun e f => leS e.1 f.1) → G l = some (.lst (ps.map fun z => V.ref z.1)) → (∀ z ∈ ps, G z.1 = some (.tup [.str z.2.1, z.2.2])) → Q (.ref l) G) : rSortItK [.ref p] H Q :=
  ⟨p, d, ks, rfl, hp, hd, h64, fun G l ps a b c e f => q l G ps a b c e f⟩
theorem paired_perm {α β : Type} {F : α → β → Prop} {l k : List α} (p : l.Perm k) : ∀ {b : List β}, Paired F k b → ∃ b', Paired F l b' ∧ b'.Perm b := by
  induction p with
  | nil => exact fun h => ⟨_, h, .refl _⟩
  | cons x _ ih =>
    intro b h
    cases h with
    | cons a t =>
      obtain ⟨b', h1, h2⟩ := ih t
      exact ⟨_ :: b', .cons a h1, .cons _ h2⟩
  | swap x y l =>
    intro b h
    cases h with
    | cons a t =>
      cases t with
      | cons a2 t2 => exact ⟨_, .cons a2 (.cons a t2), .swap _ _ _⟩
  | trans _ _ ih1 ih2 =>
    intro b h
    obtain ⟨b1, h1, p1⟩ := ih2 h
    obtain ⟨b2, h2, p2⟩ := ih1 h1
    exact ⟨b2, h2, p2.trans p1⟩
end
end G9

/-! type(x) is T. -/
namespace G9
open PySem PySem.Spec PyProof.Rows L2
section
variable {X : Cx} {K : PySem.W.Frag} {H : Hp} {Q : VK} {x : V} {T a b : String}
def rIsTy : R2 := fun x y H Q => ∃ a b, x = .ty a ∧ y = .ty b ∧ Q (.bl (decide (a = b))) H
theorem op_isT : OpR X (compareOp .Is) rIsTy := op_isTyB
theorem l_isT (q : Q (.bl (decide (a = b))) H) : rIsTy (.ty a) (.ty b) H Q := ⟨a, b, rfl, rfl, q⟩
theorem l_typ (h : TyB K H x T) (q : Q (.ty T) H) : rTyp K [x] H Q := ⟨x, T, rfl, h, q⟩
end
end G9

/-! x op y, x of an own class with that operator, y of a built-in kind. -/
namespace G9
open PySem PySem.Spec PyProof.Rows L2
/-- of a kind: what its own lookups find for the operator, and that it is no kind of the class -/
def binKind (K : PySem.W.Frag) (C : Addr) (n T : String) : Bool :=
  (PySem.W.findIn K (.type T) (PySem.dunder n)).isSome && ((PySem.W.findIn K (.type T) (PySem.dunderR n)).isSome && decide (PySem.W.subIn K (.type T) (.ref C) = some false))
def binB (K : PySem.W.Frag) (C : Addr) (n : String) : Bool := same (PySem.W.findIn K (.ref C) (PySem.dunderR n)) (some none) && kindsB.all fun T => binKind K C n T
structure BinB (K : PySem.W.Frag) (C : Addr) (n : String) : Prop where
  back : PySem.W.findIn K (.ref C) (PySem.dunderR n) = some none
  kind : ∀ T ∈ kindsB, binKind K C n T = true
theorem binB_mk {K : PySem.W.Frag} {C : Addr} {n : String} (h : binB K C n = true) : BinB K C n := by
  obtain ⟨h1, h2⟩ := Bool.and_eq_true_iff.mp h
  exact ⟨same_ok h1, List.all_eq_true.mp h2⟩
section
open PySem.W
variable {prog : Program} {w : World} {A : Around} {E : Value → Shared → Prop} {s : Shared} {K : Frag} {x C L f : Addr} {hp0 : Heap} {m : Str → Option Value} {ox : Obj} {od : Option Obj} {T : String}
theorem bin_kind {op : Operator} {y : Value} {lf lr : Option Value} {Q : Value → Shared → Prop} (fr : Fr hp0 L s.heap m) (k0 : K.In hp0) (inst : InstAt s.heap x ox C od) (ty : Looks (model prog w) s.heap (typeOf y) (.type T)) (first : selfFirst K C = true)
    (own : findIn K (.ref C) (PySem.dunder op.info.2) = some (some (.ref f))) (fn : isFn K (.ref f) = true) (back : findIn K (.ref C) (PySem.dunderR op.info.2) = some none) (l1 : findIn K (.type T) (PySem.dunder op.info.2) = some lf) (l2 : findIn K (.type T) (PySem.dunderR op.info.2) = some lr)
    (sub : subIn K (.type T) (.ref C) = some false) (goes : wpAny (model prog w) A (call (.ref f) [.ref x, y]) (W.CmpBack Q) E s) : wpAny (model prog w) A (binaryOp op (.ref x) y) Q E s := by
  have now := k0.keeps fr.keep
  obtain ⟨cd, rest, hcd, hm⟩ := ksp_first first
  rcases inf : op.info with ⟨sg, n⟩
  rw [inf] at own back l1 l2
  dsimp only at own back l1 l2
  have run := ksp_try now inst own fn goes
  obtain ⟨h0, g0, d0, t0, o0⟩ := s
  have tx : Looks (model prog w) h0 (typeOf (.ref x)) (.ref C) := inst.type
  have fx : Looks (model prog w) h0 (fillsNumberSlot (.ref C) n) true := fills_K now hcd hm own
  have fy := ksp_fillsT (M := model prog w) now l1 l2
  have py : Looks (model prog w) h0 (numberSlotInPython (.ref C) n) true := ksp_inPy now own back (.inl rfl)
  have pt : Looks (model prog w) h0 (numberSlotInPython (.type T) n) false := Looks.of_pure rfl
  have isn : Looks (model prog w) h0 (isSubtype (.type T) (.ref C)) false := looks_subIn now sub
  have lk2 : Looks (model prog w) h0 (typeLookup (.type T) (PySem.dunderR n)) lr := looks_findIn now l2
  have differ : (Value.ref C == Value.type T) = false := Bool.eq_false_iff.mpr fun q => nomatch beq_iff_eq.mp q
  generalize ((lf.isSome && !isSeqSlot lf) || (lr.isSome && !isSeqSlot lr)) = fills at fy
  simp only [binaryOp, inf]
  unfold binaryOp1
  refine wpAny_holding (wpAny_bind (wpAny_bind (tx.at (wpAny_bind (ty.at (wpAny_bind (fx.at ?_)))))))
  simp only [differ, Bool.false_eq_true, if_false]
  cases fills <;> (ksp_lk; (refine wpAny_mono run (fun r s1 z => ?_) fun _ _ e => e); obtain ⟨v, rfl, z⟩ := z; ksp_lk; exact z)
end
section
variable {X : Cx} {CX : CXT} {k : Nat} {f C : Addr} {fd : FuncData} {ps : List Str} {sp : Sp} {E : XK}
def rOwnBinK (K : PySem.W.Frag) (C : Addr) (sp : Sp) (E : XK) : R2 := fun x y H Q => KindAt K H y ∧ OwnCall C sp E x [y] H Q
theorem op_ownBinK {op : Operator} (hc : PySem.W.selfFirst X.K C = true) (B : BinB X.K C op.info.2) (D : Dun X.K C (PySem.dunder op.info.2) f) (F : FnG X.prog X.w X.K X.mg X.base CX k f fd ps sp) (room : RoomG k X.A) (hb : Binds X.K fd ps []) (hx : Passes CX X E) : OpR X (binaryOp op) (rOwnBinK X.K C sp E) := by
  intro pins s σ H x y v u Q I rx ry h
  obtain ⟨⟨T, hT, ty⟩, a, dx, fs, rfl, ea, q⟩ := h
  obtain rfl : v = Value.ref a := rx
  obtain ⟨mA, O, _⟩ := ins_get I.hok ea
  obtain ⟨od, J, _⟩ := O.look
  obtain ⟨mF, hF⟩ := I.fr
  obtain ⟨b1, b2⟩ := Bool.and_eq_true_iff.mp (B.kind T hT)
  obtain ⟨b2, b3⟩ := Bool.and_eq_true_iff.mp b2
  obtain ⟨lf, h1⟩ := Option.isSome_iff_exists.mp b1
  obtain ⟨lr, h2⟩ := Option.isSome_iff_exists.mp b2
  refine bin_kind hF I.ok.mod.kin J (looks_ty I ry ty) hc D.here D.isf B.back h1 h2 (of_decide_eq_true b3) (thn (calleeA rfl F room hb .nil hx I (.cons (rv_ref a) (.cons ry .nil)) q) fun r z hz => ?_)
  obtain ⟨w1, H1, I1, rw1, q1⟩ := hz
  exact not_ni rw1 ⟨w1, H1, I1, rw1, q1⟩
end
end G9

/-! A dict compared with what is none. -/
namespace G9
open PySem PySem.SeqAt PySem.Builtin
section
variable {M : Model} {prog : Program} {w : World} {A : Around} {E : Value → Shared → Prop} {s : Shared}
theorem dict_no {d : Addr} {y : Value} {T : String} {Q : Value → Shared → Prop} (hd : s.TypeIs (.ref d) "dict") (hy : s.TypeIs y T) (sub : isSubtype (.type T) (.type "dict") = pure false) (q : Q .notImplemented s) :
    wpAny (model prog w) A (call (.builtin "dict.__eq__") [.ref d, y]) Q E s := by
  refine wpAny_call_entry PySem.F.slot_dict_eq hd PySem.F.entry_dict_eq ?_ (PySem.F.args_dict_eq_2 _ _)
  show wpAny _ _ (Builtin.Dict.dictSlotArgs "__eq__" ⟨[.ref d, y], []⟩ >>= _) _ _ s
  refine wpAny_bind ?_
  unfold Builtin.Dict.dictSlotArgs
  refine wpAny_bind (wpAny_notOrdered_dict hd ?_)
  show wpAny _ _ (pure (Value.ref d, y)) _ _ s
  refine wpAny_pure (wpAny_bind (wpAny_isInstance (T := T) hy sub ?_))
  simp only [Bool.not_false, if_true]
  exact wpAny_bind (wpAny_rule (wpAny_bind (wpAny_pure (wpAny_pure ⟨_, rfl, q⟩))))
theorem str_no (x : Str) (t : Tok) (l : Addr) (es : Array DictEntry) (ep : Nat) (dd : Option Addr) (sl : Array (Option Value)) : Meets (Builtin.«str.__eq__» ⟨[.str x t, .ref l], []⟩) (fun _ R s => s.heap.get? l = some { cls := .type "dict", dict := dd, data := .dict es ep, slots := sl } ∧ R (.ok (.ret .notImplemented)) s) :=
  .of_wp fun prog w A R s h => by
    obtain ⟨hp, g, d, tk, os⟩ := s
    obtain ⟨hl, h⟩ := h
    have f1 := PySem.F.sub_dict_str
    wp_walk using wpAny_loadPart' hl, wpAny_load hl
    exact ⟨_, rfl, h⟩
theorem tup_no (a l : Addr) (items : Array Value) (n : Nat) (dd : Option Addr) (sl : Array (Option Value)) (o : Obj) :
    Meets (Builtin.«tuple.__eq__» ⟨[.ref a, .ref l], []⟩) (fun _ R s => s.heap.get? a = some { cls := .type "tuple", dict := dd, data := .seq items n, slots := sl } ∧ s.heap.get? l = some o ∧ o.cls = .type "dict" ∧ R (.ok (.ret .notImplemented)) s) :=
  .of_wp fun prog w A R s h => by
    obtain ⟨hp, g, d, tk, os⟩ := s
    obtain ⟨ha, hl, hc, h⟩ := h
    obtain ⟨c, dd2, da, sl2⟩ := o
    simp only at hc
    subst hc
    have f1 := PySem.F.sub_dict_tuple
    wp_walk using wpAny_loadPart' ha, wpAny_loadPart' hl
    exact ⟨_, rfl, h⟩
end
section
variable {A : Around} {s : Shared} {d l : Addr} {o : Obj} {items : Array Value}
theorem rc_dict_str (x : Str) (t : Tok) (ho : s.heap.get? d = some o) (hc : o.cls = .type "dict") (hda : ∃ es ep, o.data = .dict es ep) (hu : A.units < cLine) : RcAt A s (.ref d) (.str x t) false := fun prog w E Q h => by
  obtain ⟨es, ep, hda⟩ := hda
  obtain ⟨cls, dd, data, sl⟩ := o
  simp only at hc hda
  subst hc hda
  exact rc_eq_decline_or (k := false) ⟨_, ho, rfl⟩ (typeIs_str s x t) (by decide) F.sub_str_dict F.slot_dict_eq F.slot_str_eq_refl
    (fun _ q => dict_no ⟨_, ho, rfl⟩ (typeIs_str s x t) F.sub_str_dict q)
    (fun _ q => call_meets F.slot_str_eq_refl (typeIs_str s x t) F.entry_str_eq (F.args_str_eq_2 _ _) (str_no x t d es ep dd sl) ⟨ho, q⟩)
    (fun _ q => wpAny_of_eq (rfl : isSame (.ref d) (.str x t) = pure false) q) (.inr hu) h
theorem rc_dict_tup (ho : s.heap.get? d = some o) (hc : o.cls = .type "dict") (ht : s.heap.IsTuple l items) (hu : A.units < cLine) : RcAt A s (.ref d) (.ref l) false := fun prog w E Q h => by
  have ne : d ≠ l := fun z => by
    obtain ⟨o2, h2, c2, _⟩ := ht
    rw [← z, ho] at h2
    cases h2
    rw [hc] at c2
    exact absurd c2 (by simp)
  obtain ⟨⟨cls, dd, data, sl⟩, h2, c2, n, d2⟩ := id ht
  simp only at c2 d2
  subst c2 d2
  exact rc_eq_decline_or (k := false) ⟨_, ho, hc⟩ ⟨_, h2, rfl⟩ (by decide) F.sub_tuple_dict F.slot_dict_eq F.slot_tuple_eq_refl
    (fun _ q => dict_no ⟨_, ho, hc⟩ ⟨_, h2, rfl⟩ F.sub_tuple_dict q)
    (fun _ q => call_meets F.slot_tuple_eq_refl ⟨_, h2, rfl⟩ F.entry_tuple_eq (F.args_tuple_eq_2 _ _) (tup_no l d items n dd sl o) ⟨h2, ho, hc, q⟩)
    (fun _ q => wpAny_isSame_ref_other ne ho h2 (by rw [hc]; simp) q) (.inr hu) h
end
end G9

/-! Values of any kind as data, dicts within them too: read, shown. -/
namespace G9
open PySem PySem.Spec PyProof.Rows L2
mutual
/-- what stands on the heap, no dict of it the table of the modules -/
inductive RdU (h : Heap) : Value → PyData → Prop
  | non : RdU h .none .none
  | bl (b : Bool) : RdU h (.bool b) (.bool b)
  | int (i : Int) (t : Tok) : RdU h (.int i t) (.int i)
  | str (x : Str) (t : Tok) : RdU h (.str x t) (.str x)
  | lst {a : Addr} {o : Obj} {vs : Array Value} {n : Nat} {xs : List PyData} (h1 : h.get? a = some o) (h2 : o.cls = .type "list") (h3 : o.data = .seq vs n) (r : RdUs h vs.toList xs) : RdU h (.ref a) (.list xs)
  | tup {a : Addr} {o : Obj} {vs : Array Value} {n : Nat} {xs : List PyData} (h1 : h.get? a = some o) (h2 : o.cls = .type "tuple") (h3 : o.data = .seq vs n) (r : RdUs h vs.toList xs) : RdU h (.ref a) (.tuple xs)
  | dct {a : Addr} {o : Obj} {es : Array DictEntry} {n : Nat} {kvs : List (PyData × PyData)} (h1 : h.get? a = some o) (h2 : o.cls = .type "dict") (h3 : o.data = .dict es n) (lo : (a == sysModules) = false)
      (rk : RdUs h (es.toList.map (·.key)) (kvs.map (·.1))) (rv : RdUs h (es.toList.map (·.val)) (kvs.map (·.2))) : RdU h (.ref a) (.dict kvs)
inductive RdUs (h : Heap) : List Value → List PyData → Prop
  | nil : RdUs h [] []
  | cons {v : Value} {vs : List Value} {d : PyData} {ds : List PyData} (r : RdU h v d) (rs : RdUs h vs ds) : RdUs h (v :: vs) (d :: ds)
end
mutual
theorem RdU.reads {h : Heap} : ∀ {v : Value} {d : PyData}, RdU h v d → ∃ as, Reads h v d as
  | _, _, .non => ⟨_, .none⟩
  | _, _, .bl b => ⟨_, .bool b⟩
  | _, _, .int i t => ⟨_, .int i t⟩
  | _, _, .str x t => ⟨_, .str x t⟩
  | _, _, .lst h1 h2 h3 r => let ⟨as, z⟩ := r.reads; ⟨_, .list h1 h2 h3 z⟩
  | _, _, .tup h1 h2 h3 r => let ⟨as, z⟩ := r.reads; ⟨_, .tuple h1 h2 h3 z⟩
  | _, _, .dct h1 h2 h3 _ rk rv => let ⟨as, z⟩ := rk.reads; let ⟨bs, y⟩ := rv.reads; ⟨_, .dict h1 h2 h3 z y⟩
theorem RdUs.reads {h : Heap} : ∀ {vs : List Value} {ds : List PyData}, RdUs h vs ds → ∃ as, ReadsAll h vs ds as
  | _, _, .nil => ⟨_, .nil⟩
  | _, _, .cons r rs => let ⟨as, z⟩ := r.reads; let ⟨bs, y⟩ := rs.reads; ⟨_, .cons z y⟩
end
section
variable {prog : Program} {w : World} {h : Heap}
mutual
theorem RdU.shown : ∀ {v : Value} {d : PyData}, RdU h v d → d.showable = true → d.shown.length ≤ sizeLine → ∃ bs, ReadAtMost h d.depth bs ∧ ReprK prog w bs h d.depth v d.shown
  | _, _, .non, _, _ => ⟨[], (fun _ m => nomatch m), by simp only [PyData.shown]; exact .of_is ReprIs.none _ _ _⟩
  | _, _, .bl b, _, _ => ⟨[], (fun _ m => nomatch m), by simp only [PyData.shown]; exact .of_is (ReprIs.bool b) _ _ _⟩
  | _, _, .int i t, sh, _ => ⟨[], (fun _ m => nomatch m), by simp only [PyData.shown]; exact .of_is (ReprIs.int t (by simpa [PyData.showable] using sh)) _ _ _⟩
  | _, _, .str x t, _, z => ⟨[], (fun _ m => nomatch m), by simp only [PyData.shown]; exact .of_is (ReprIs.str x t (by simpa only [PyData.shown] using z)) _ _ _⟩
  | _, _, .lst (a := a) (vs := vs) (xs := xs) h1 h2 h3 r, sh, z => by
    have zl : (listText (PyData.shownAll xs)).length ≤ sizeLine := by simpa only [PyData.shown] using z
    obtain ⟨bs, deep, items⟩ := r.shown (by simpa [PyData.showable] using sh) fun t ht => Nat.le_trans (listText_mem_le ht) zl
    obtain ⟨as, rd⟩ := (RdU.lst h1 h2 h3 r).reads
    have out : a ∉ bs := not_mem_of_deeper rd (by simp only [PyData.depth]; omega) deep
    refine ⟨a :: bs, ReadAtMost.cons rd (by simp only [PyData.depth]; omega) deep, ?_⟩
    simp only [PyData.depth, PyData.shown]
    obtain ⟨l⟩ := vs
    cases l with
    | nil =>
      cases (show RdUs h [] xs from r)
      simp only [PyData.shownAll, listText_nil]
      exact ReprK.listEmpty h1 h2 h3
    | cons y l => exact ReprK.list h1 h2 h3 out (by simpa using items.length_eq) fun i u e => items.item i u (by simpa using e)
  | _, _, .tup (a := a) (xs := xs) h1 h2 h3 r, sh, z => by
    have zl : (tupleText (PyData.shownAll xs)).length ≤ sizeLine := by simpa only [PyData.shown] using z
    obtain ⟨bs, deep, items⟩ := r.shown (by simpa [PyData.showable] using sh) fun t ht => Nat.le_trans (tupleText_mem_le ht) zl
    obtain ⟨as, rd⟩ := (RdU.tup h1 h2 h3 r).reads
    have out : a ∉ bs := not_mem_of_deeper rd (by simp only [PyData.depth]; omega) deep
    refine ⟨a :: bs, ReadAtMost.cons rd (by simp only [PyData.depth]; omega) deep, ?_⟩
    simp only [PyData.depth, PyData.shown]
    exact ReprK.tuple h1 h2 h3 out items
  | _, _, .dct (a := a) (es := es) (kvs := kvs) h1 h2 h3 lo rk rv, sh, z => by
    have zl : (dictText (PyData.shownKv kvs)).length ≤ sizeLine := by simpa only [PyData.shown] using z
    obtain ⟨s1, s2⟩ := PyData.showableKv_split kvs (by simpa [PyData.showable] using sh)
    obtain ⟨b1, deep1, items1⟩ := rk.shown s1 fun t ht => let ⟨p, hp, hl⟩ := PyData.shownKv_key_le kvs t ht; Nat.le_trans hl (Nat.le_trans (dictText_mem_le hp) zl)
    obtain ⟨b2, deep2, items2⟩ := rv.shown s2 fun t ht => let ⟨p, hp, hl⟩ := PyData.shownKv_val_le kvs t ht; Nat.le_trans hl (Nat.le_trans (dictText_mem_le hp) zl)
    obtain ⟨as, rd⟩ := (RdU.dct h1 h2 h3 lo rk rv).reads
    have deep : ReadAtMost h (PyData.depthKv kvs) (b1 ++ b2) := (deep1.mono (PyData.depthAll_keys_le kvs)).append (deep2.mono (PyData.depthAll_vals_le kvs))
    have out : a ∉ b1 ++ b2 := not_mem_of_deeper rd (by simp only [PyData.depth]; omega) deep
    refine ⟨a :: (b1 ++ b2), ReadAtMost.cons rd (by simp only [PyData.depth]; omega) deep, ?_⟩
    simp only [PyData.depth, PyData.shown, PyData.shownKv_eq]
    exact ReprK.dict h1 h2 h3 lo out (ReprEntriesK.of_two es.toList _ _ (items1.more_le (fun b hb => List.mem_append_left _ hb) (PyData.depthAll_keys_le kvs)) (items2.more_le (fun b hb => List.mem_append_right _ hb) (PyData.depthAll_vals_le kvs)))
theorem RdUs.shown : ∀ {vs : List Value} {ds : List PyData}, RdUs h vs ds → PyData.showableAll ds = true → (∀ t ∈ PyData.shownAll ds, t.length ≤ sizeLine) → ∃ bs, ReadAtMost h (PyData.depthAll ds) bs ∧ ReprAllK prog w bs h (PyData.depthAll ds) vs (PyData.shownAll ds)
  | _, _, .nil, _, _ => ⟨[], (fun _ m => nomatch m), by simp only [PyData.shownAll]; exact .nil⟩
  | _, _, .cons (d := d) (ds := ds) r rs, sh, z => by
    have s2 : d.showable = true ∧ PyData.showableAll ds = true := by simpa [PyData.showableAll] using sh
    obtain ⟨b1, deep1, k1⟩ := r.shown s2.1 (z _ (by simp only [PyData.shownAll]; exact List.mem_cons_self ..))
    obtain ⟨b2, deep2, k2⟩ := rs.shown s2.2 fun t ht => z t (by simp only [PyData.shownAll]; exact List.mem_cons_of_mem _ ht)
    refine ⟨b1 ++ b2, fun b hm => ?_, ?_⟩
    · simp only [PyData.depthAll]
      rcases List.mem_append.mp hm with hm | hm
      · obtain ⟨d', as', r', le⟩ := deep1 b hm
        exact ⟨d', as', r', Nat.le_trans le (Nat.le_max_left _ _)⟩
      · obtain ⟨d', as', r', le⟩ := deep2 b hm
        exact ⟨d', as', r', Nat.le_trans le (Nat.le_max_right _ _)⟩
    · simp only [PyData.depthAll, PyData.shownAll]
      exact .cons ((k1.more fun b hb => List.mem_append_left _ hb).level_le (Nat.le_max_left _ _)) (k2.more_le (fun b hb => List.mem_append_right _ hb) (Nat.le_max_right _ _))
end
/-- repr of a list of such values -/
theorem repr_lst {A : Around} {E : Value → Shared → Prop} {s : Shared} {a : Addr} {o : Obj} {vs : Array Value} {n : Nat} {xs : List PyData} {Q : Value → Shared → Prop} (h1 : s.heap.get? a = some o) (h2 : o.cls = .type "list") (h3 : o.data = .seq vs n) (r : RdUs s.heap vs.toList xs)
    (sh : PyData.showableAll xs = true) (z : (PyData.list xs).shown.length ≤ sizeLine) (hg : A.guards = some []) (hu : A.units + ((PyData.list xs).depth + 1) < cLine)
    (q : ∀ h' u tk, (∀ b o, s.heap.get? b = some o → h'.get? b = some o) → Q (.str (PyData.list xs).shown u) { s with heap := h', toks := tk }) : wpAny (model prog w) A (call (.builtin "repr") [.ref a]) Q E s := by
  have zl : (listText (PyData.shownAll xs)).length ≤ sizeLine := by simpa only [PyData.shown] using z
  obtain ⟨bs, deep, items⟩ := r.shown (prog := prog) (w := w) sh fun t ht => Nat.le_trans (listText_mem_le ht) zl
  obtain ⟨as, rd⟩ := (RdU.lst h1 h2 h3 r).reads
  have out : a ∉ bs := not_mem_of_deeper rd (by simp only [PyData.depth]; omega) deep
  have depth : (PyData.list xs).depth = PyData.depthAll xs + 1 := by simp only [PyData.depth]
  have text : (PyData.list xs).shown = listText (PyData.shownAll xs) := by simp only [PyData.shown]
  rw [text] at q
  refine call_repr_slot (by omega) ⟨o, h1, h2⟩ F.slot_list_repr.toG ?_
  obtain ⟨l⟩ := vs
  cases l with
  | nil =>
    cases (show RdUs s.heap [] xs from r)
    simp only [PyData.shownAll, listText_nil] at q
    exact call_list_repr_empty ⟨o, h1, h2⟩ h1 h3 ⟨_, _, rfl, q s.heap _ _ fun _ _ e => e⟩
  | cons y l => exact call_list_reprK h1 h2 h3 out (by simpa using items.length_eq) (fun i u e => items.item i u (by simpa using e)) hg (fun b _ => Clear.nil b) (by show A.units + 1 + _ < cLine; omega) (fun _ _ e => e) (fun h' u tk k => ⟨_, _, rfl, q h' u tk k⟩) zl
end
end G9

/-! Values of any kind compared with texts, rows of one text, empty rows. -/
namespace G9
open PySem PySem.SeqAt PySem.Builtin
section
variable {M : Model} {prog : Program} {w : World} {A : Around} {E : Value → Shared → Prop} {s : Shared}
theorem dict_no2 {d : Addr} {y : Value} {T : String} {Q : Value → Shared → Prop} (hd : s.TypeIs (.ref d) "dict") (hy : s.TypeIs y T) (sub : isSubtype (.type T) (.type "dict") = pure false) (q : Q .notImplemented s) :
    wpAny (model prog w) A (call (.builtin "dict.__ne__") [.ref d, y]) Q E s := by
  refine wpAny_call_entry PySem.F.slot_dict_ne hd PySem.F.entry_dict_ne ?_ (PySem.F.args_dict_ne_2 _ _)
  show wpAny _ _ (Builtin.Dict.dictSlotArgs "__ne__" ⟨[.ref d, y], []⟩ >>= _) _ _ s
  refine wpAny_bind ?_
  unfold Builtin.Dict.dictSlotArgs
  refine wpAny_bind (wpAny_notOrdered_dict hd ?_)
  show wpAny _ _ (pure (Value.ref d, y)) _ _ s
  refine wpAny_pure (wpAny_bind (wpAny_isInstance (T := T) hy sub ?_))
  simp only [Bool.not_false, if_true]
  exact wpAny_bind (wpAny_rule (wpAny_bind (wpAny_pure (wpAny_pure ⟨_, rfl, q⟩))))
theorem str_no2 (x : Str) (t : Tok) (l : Addr) (es : Array DictEntry) (ep : Nat) (dd : Option Addr) (sl : Array (Option Value)) : Meets (Builtin.«str.__ne__» ⟨[.str x t, .ref l], []⟩) (fun _ R s => s.heap.get? l = some { cls := .type "dict", dict := dd, data := .dict es ep, slots := sl } ∧ R (.ok (.ret .notImplemented)) s) :=
  .of_wp fun prog w A R s h => by
    obtain ⟨hp, g, d, tk, os⟩ := s
    obtain ⟨hl, h⟩ := h
    have f1 := PySem.F.sub_dict_str
    wp_walk using wpAny_loadPart' hl, wpAny_load hl
    exact ⟨_, rfl, h⟩
end
section
variable {A : Around} {s : Shared} {d l : Addr} {o : Obj} {items : Array Value}
theorem rcne_dict_str (x : Str) (t : Tok) (ho : s.heap.get? d = some o) (hc : o.cls = .type "dict") (hda : ∃ es ep, o.data = .dict es ep) (hu : A.units < cLine) : RcNeAt A s (.ref d) (.str x t) true := fun prog w E Q h => by
  obtain ⟨es, ep, hda⟩ := hda
  obtain ⟨cls, dd, data, sl⟩ := o
  simp only at hc hda
  subst hc hda
  exact rc_ne_decline_or (k := false) ⟨_, ho, rfl⟩ (typeIs_str s x t) (by decide) F.sub_str_dict F.slot_dict_ne F.slot_str_ne_refl
    (fun _ q => dict_no2 ⟨_, ho, rfl⟩ (typeIs_str s x t) F.sub_str_dict q)
    (fun _ q => call_meets F.slot_str_ne_refl (typeIs_str s x t) F.entry_str_ne (F.args_str_ne_2 _ _) (str_no2 x t d es ep dd sl) ⟨ho, q⟩)
    (fun _ q => wpAny_of_eq (rfl : isSame (.ref d) (.str x t) = pure false) q) (.inr hu) h
theorem rc_str_dict (x : Str) (t : Tok) (ho : s.heap.get? d = some o) (hc : o.cls = .type "dict") (hda : ∃ es ep, o.data = .dict es ep) (hu : A.units < cLine) : RcAt A s (.str x t) (.ref d) false := fun prog w E Q h => by
  obtain ⟨es, ep, hda⟩ := hda
  obtain ⟨cls, dd, data, sl⟩ := o
  simp only at hc hda
  subst hc hda
  exact rc_eq_decline_or (k := false) (typeIs_str s x t) ⟨_, ho, rfl⟩ (by decide) F.sub_dict_str F.slot_str_eq F.slot_dict_eq_refl
    (fun _ q => call_meets F.slot_str_eq (typeIs_str s x t) F.entry_str_eq (F.args_str_eq_2 _ _) (str_no x t d es ep dd sl) ⟨ho, q⟩)
    (fun _ q => dict_no ⟨_, ho, rfl⟩ (typeIs_str s x t) F.sub_str_dict q)
    (fun _ q => wpAny_of_eq (rfl : isSame (.str x t) (.ref d) = pure false) q) (.inr hu) h
theorem eq_of_rc1 {a : Addr} {y : Str} {t : Tok} {k : Bool} (r : RcAt A s (.ref a) (.str y t) k) : EqAt A s (.ref a) (.str y t) k := fun prog w E Q h => by
  unfold eqBool
  refine wpAny_holding ?_
  refine wpAny_ite_split (fun e => absurd (eq_of_beq e) nofun) (fun _ => ?_)
  exact wpAny_bind (r prog w E _ (wpAny_truthy_bool h))
theorem eq_of_rc2 {a : Addr} {y : Str} {t : Tok} {k : Bool} (r : RcAt A s (.str y t) (.ref a) k) : EqAt A s (.str y t) (.ref a) k := fun prog w E Q h => by
  unfold eqBool
  refine wpAny_holding ?_
  refine wpAny_ite_split (fun e => absurd (eq_of_beq e) nofun) (fun _ => ?_)
  exact wpAny_bind (r prog w E _ (wpAny_truthy_bool h))
/-- is the data this text -/
def isS (x : PyData) (y : Str) : Bool := match x with
  | .str z => z == y
  | _ => false
theorem rc_str {u : Value} {x : PyData} (r : RdU s.heap u x) (y : Str) (t : Tok) (hu : A.units < cLine) : RcAt A s u (.str y t) (isS x y) := by
  cases r with
  | non => exact RcAt.none_str y t
  | bl b => exact RcAt.bool_str b y t
  | int i t' => exact RcAt.int_str i t' y t
  | str z t' => exact RcAt.str_str z t' y t
  | lst h1 h2 h3 r => exact RcAt.list_str y t ⟨_, h1, h2, _, h3⟩ hu
  | tup h1 h2 h3 r => exact RcAt.tuple_str y t ⟨_, h1, h2, _, h3⟩ hu
  | dct h1 h2 h3 lo rk rv => exact rc_dict_str y t h1 h2 ⟨_, _, h3⟩ hu
theorem rcne_str {u : Value} {x : PyData} (r : RdU s.heap u x) (y : Str) (t : Tok) (hu : A.units < cLine) : RcNeAt A s u (.str y t) (!isS x y) := by
  cases r with
  | non => exact RcNeAt.none_str y t
  | bl b => exact RcNeAt.bool_str b y t
  | int i t' => exact RcNeAt.int_str i t' y t
  | str z t' => exact RcNeAt.str_str z t' y t
  | lst h1 h2 h3 r => exact RcNeAt.list_str y t ⟨_, h1, h2, _, h3⟩ hu
  | tup h1 h2 h3 r => exact RcNeAt.tuple_str y t ⟨_, h1, h2, _, h3⟩ hu
  | dct h1 h2 h3 lo rk rv => exact rcne_dict_str y t h1 h2 ⟨_, _, h3⟩ hu
theorem eq_str {u : Value} {x : PyData} (r : RdU s.heap u x) (y : Str) (t : Tok) (hu : A.units < cLine) : EqAt A s u (.str y t) (isS x y) := by
  cases r with
  | non => exact EqAt.none_str y t
  | bl b => exact EqAt.bool_str b y t
  | int i t' => exact EqAt.int_str i t' y t
  | str z t' => exact EqAt.str_str z t' y t
  | lst h1 h2 h3 r => exact EqAt.list_str y t ⟨_, h1, h2, _, h3⟩ hu
  | tup h1 h2 h3 r => exact EqAt.tuple_str y t ⟨_, h1, h2, _, h3⟩ hu
  | dct h1 h2 h3 lo rk rv => exact eq_of_rc1 (rc_dict_str y t h1 h2 ⟨_, _, h3⟩ hu)
theorem eq_str2 {u : Value} {x : PyData} (r : RdU s.heap u x) (y : Str) (t : Tok) (hu : A.units < cLine) : EqAt A s (.str y t) u (isS x y) := by
  cases r with
  | non => exact EqAt.str_none y t
  | bl b => exact EqAt.str_bool y t b
  | int i t' => exact EqAt.str_int y t i t'
  | str z t' =>
    have e : (y == z) = (z == y) := by
      by_cases q : y = z
      · rw [q]
      · rw [beq_eq_false_iff_ne.mpr q, beq_eq_false_iff_ne.mpr fun h => q h.symm]
    show EqAt A s (.str y t) (.str z t') (z == y)
    rw [← e]
    exact EqAt.str_str y t z t'
  | lst h1 h2 h3 r => exact EqAt.str_list y t ⟨_, h1, h2, _, h3⟩ hu
  | tup h1 h2 h3 r => exact EqAt.str_tuple y t ⟨_, h1, h2, _, h3⟩ hu
  | dct h1 h2 h3 lo rk rv => exact eq_of_rc2 (rc_str_dict y t h1 h2 ⟨_, _, h3⟩ hu)
/-- is the data a row of just this text -/
def isS1 (x : PyData) (y : Str) : Bool := match x with
  | .tuple [.str z] => z == y
  | _ => false
theorem tup1_all {us : List Value} {xs : List PyData} {y : Str} {t : Tok} {A' : Around} (r : RdUs s.heap us xs) (hu : A'.units < cLine) : ∃ e : Nat → Bool, (∀ j (h1 : j < us.toArray.size) (h2 : j < (#[Value.str y t]).size), EqAt A' s us.toArray[j] (#[Value.str y t])[j] (e j)) ∧
    ((List.range (min us.toArray.size (#[Value.str y t]).size)).all e && us.toArray.size == (#[Value.str y t]).size) = isS1 (.tuple xs) y := by
  cases r with
  | nil => exact ⟨fun _ => true, (fun j h1 => absurd h1 (Nat.not_lt_zero j)), rfl⟩
  | @cons v vs x xs r0 rs =>
    refine ⟨fun _ => isS x y, fun j h1 h2 => ?_, ?_⟩
    · have : j = 0 := by
        have : (#[Value.str y t]).size = 1 := rfl
        omega
      subst this
      exact eq_str r0 y t hu
    · cases rs with
      | nil =>
        show ((List.range 1).all (fun _ => isS x y) && true) = isS1 (.tuple [x]) y
        rw [Bool.and_true]
        show (isS x y && true) = _
        rw [Bool.and_true]
        cases x <;> rfl
      | @cons v2 vs2 x2 xs2 r1 rs =>
        have : ((v :: v2 :: vs2 : List Value).toArray.size == (#[Value.str y t]).size) = false := rfl
        rw [this, Bool.and_false]
        cases x <;> rfl
theorem rc_tup1 {u : Value} {x : PyData} {l : Addr} {y : Str} {t : Tok} (r : RdU s.heap u x) (ht : s.heap.IsTuple l #[.str y t]) (hu : A.units + 1 < cLine) : RcAt A s u (.ref l) (isS1 x y) := by
  have hu0 : A.units < cLine := by omega
  cases r with
  | non => exact fun prog w E Q h => RcAt.none_tuple ht hu0 prog w E Q h
  | bl b => exact RcAt.bool_tuple b ht hu0
  | int i t' => exact RcAt.int_tuple i t' ht hu0
  | str z t' => exact RcAt.str_tuple z t' ht hu0
  | lst h1 h2 h3 r => exact RcAt.list_tuple ⟨_, h1, h2, _, h3⟩ ht hu0
  | @tup a o vs n xs h1 h2 h3 r =>
    obtain ⟨e, he, ev⟩ := tup1_all (A' := A.in1) (y := y) (t := t) r (by show A.units + 1 < cLine; omega)
    rw [← ev]
    exact RcAt.tuples (items := vs.toList.toArray) (by rw [Array.toArray_toList]; exact ⟨_, h1, h2, _, h3⟩) ht hu0 he
  | dct h1 h2 h3 lo rk rv => exact rc_dict_tup h1 h2 ht hu0
/-- a tuple compared with the empty one -/
theorem rc_tup0 {a l : Addr} {vs : Array Value} (ha : s.heap.IsTuple a vs) (ht : s.heap.IsTuple l #[]) (hu : A.units + 1 < cLine) : RcAt A s (.ref a) (.ref l) (decide (vs.size = 0)) := by
  have e : ((List.range (min vs.size (#[] : Array Value).size)).all (fun _ => true) && vs.size == (#[] : Array Value).size) = decide (vs.size = 0) := by
    have : min vs.size (#[] : Array Value).size = 0 := Nat.min_zero _
    rw [this]
    show (true && (vs.size == 0)) = _
    rw [Bool.true_and]
    rfl
  rw [← e]
  exact RcAt.tuples ha ht (by omega) fun j h1 h2 => absurd h2 (Nat.not_lt_zero j)
end
end G9

/-! Values of any kind in the abstract heap, none of their lists the dice. -/
namespace G9
open PySem PySem.Spec PyProof.Rows L2
/-! ### what stays while dice are thrown and tables grow -/
section
variable {H G J : Hp} {d p q : Addr}
def Ex (d : Addr) (H G : Hp) : Prop := DiceAt G d ∧ ∀ b o, b ≠ d → H b = some o → (∀ ps, o ≠ .tbl ps) → G b = some o
theorem Ex.refl (h : DiceAt H d) : Ex d H H := ⟨h, fun _ _ _ e _ => e⟩
theorem Ex.trans (x : Ex d H G) (y : Ex d G J) : Ex d H J := ⟨y.1, fun b o n e t => y.2 b o n (x.2 b o n e t) t⟩
theorem Ex.dc (c : Dc d H G) : Ex d H G := ⟨c.dice, fun b o n e _ => c.keep b o n e⟩
theorem Ex.ext (h : DiceAt H d) (s : LamX.ExtN H G) : Ex d H G := by
  obtain ⟨x, y, z, e⟩ := h
  exact ⟨⟨x, y, z, s _ _ e fun _ q => by cases q⟩, fun b o _ e t => s b o e t⟩
theorem Ex.same (h : DiceAt H d) (s : Same H G) : Ex d H G := Ex.ext h (ext_of s)
theorem Ex.new {o : HO} (x : Ex d H G) (n : H q = none) (nd : q ≠ d) : Ex d H (upd G q o) := by
  refine ⟨?_, fun b u nb e t => ?_⟩
  · obtain ⟨x1, x2, x3, z⟩ := x.1
    exact ⟨x1, x2, x3, by rw [upd_ne (Ne.symm nd)]; exact z⟩
  · rw [upd_ne (ne_of_none e n)]
    exact x.2 b u nb e t
theorem Ex.at {o : HO} (h : DiceAt H d) (x : Ex d H G) (e : H p = some o) (n1 : ∀ ys, o ≠ .lst ys) (n2 : ∀ ps, o ≠ .tbl ps) : G p = some o := by
  refine x.2 p o (fun z => ?_) e n2
  obtain ⟨_, _, _, q⟩ := h
  rw [z, q] at e
  exact n1 _ (Option.some.inj e).symm
end
mutual
inductive Dat (d : Addr) (H : Hp) : V → PyData → Prop
  | non : Dat d H .non .none
  | bl (b : Bool) : Dat d H (.bl b) (.bool b)
  | int (i : Int) : Dat d H (.int i) (.int i)
  | str (x : Str) : Dat d H (.str x) (.str x)
  | lst {a : Addr} {xs : List V} {ds : List PyData} (e : H a = some (.lst xs)) (n : a ≠ d) (r : Dats d H xs ds) : Dat d H (.ref a) (.list ds)
  | tup {a : Addr} {xs : List V} {ds : List PyData} (e : H a = some (.tup xs)) (r : Dats d H xs ds) : Dat d H (.ref a) (.tuple ds)
  | dct {a : Addr} {kvs : List (Key × V)} {ds : List PyData} (e : H a = some (.dK kvs)) (r : Dats d H (kvs.map (·.2)) ds) : Dat d H (.ref a) (.dict ((kvs.map fun p => keyD p.1).zip ds))
inductive Dats (d : Addr) (H : Hp) : List V → List PyData → Prop
  | nil : Dats d H [] []
  | cons {v : V} {vs : List V} {x : PyData} {xs : List PyData} (r : Dat d H v x) (rs : Dats d H vs xs) : Dats d H (v :: vs) (x :: xs)
end
section
variable {H G : Hp} {d : Addr}
mutual
theorem Dat.ex (h : DiceAt H d) (x : Ex d H G) : ∀ {v : V} {t : PyData}, Dat d H v t → Dat d G v t
  | _, _, .non => .non
  | _, _, .bl b => .bl b
  | _, _, .int i => .int i
  | _, _, .str s => .str s
  | _, _, .lst e n r => .lst (x.2 _ _ n e fun _ z => by cases z) n (Dats.ex h x r)
  | _, _, .tup e r => .tup (x.at h e (fun _ z => by cases z) (fun _ z => by cases z)) (Dats.ex h x r)
  | _, _, .dct e r => .dct (x.at h e (fun _ z => by cases z) (fun _ z => by cases z)) (Dats.ex h x r)
theorem Dats.ex (h : DiceAt H d) (x : Ex d H G) : ∀ {vs : List V} {ts : List PyData}, Dats d H vs ts → Dats d G vs ts
  | _, _, .nil => .nil
  | _, _, .cons r rs => .cons (r.ex h x) (Dats.ex h x rs)
end
mutual
theorem Dat.same (s : Same H G) : ∀ {v : V} {t : PyData}, Dat d H v t → Dat d G v t
  | _, _, .non => .non
  | _, _, .bl b => .bl b
  | _, _, .int i => .int i
  | _, _, .str s => .str s
  | _, _, .lst e n r => .lst (s _ _ e) n (Dats.same s r)
  | _, _, .tup e r => .tup (s _ _ e) (Dats.same s r)
  | _, _, .dct e r => .dct (s _ _ e) (Dats.same s r)
theorem Dats.same (s : Same H G) : ∀ {vs : List V} {ts : List PyData}, Dats d H vs ts → Dats d G vs ts
  | _, _, .nil => .nil
  | _, _, .cons r rs => .cons (r.same s) (Dats.same s rs)
end
theorem Dats.len : ∀ {vs : List V} {ts : List PyData}, Dats d H vs ts → vs.length = ts.length
  | _, _, .nil => rfl
  | _, _, .cons _ rs => by rw [List.length_cons, List.length_cons, rs.len]
theorem Dats.at : ∀ {vs : List V} {ts : List PyData} {i : Nat} {v : V}, Dats d H vs ts → vs[i]? = some v → ∃ t, ts[i]? = some t ∧ Dat d H v t
  | _, _, i, _, .nil, h => nomatch h
  | _, _, 0, _, .cons r _, h => ⟨_, rfl, Option.some.inj h ▸ r⟩
  | _, _, i + 1, _, .cons _ rs, h => rs.at (i := i) h
theorem Dats.mem {vs : List V} {ts : List PyData} {v : V} (r : Dats d H vs ts) (h : v ∈ vs) : ∃ t, t ∈ ts ∧ Dat d H v t := by
  obtain ⟨i, hi⟩ := List.mem_iff_getElem?.mp h
  obtain ⟨t, e, q⟩ := r.at hi
  exact ⟨t, List.mem_of_getElem? e, q⟩
theorem Dats.app : ∀ {vs us : List V} {ts ss : List PyData}, Dats d H vs ts → Dats d H us ss → Dats d H (vs ++ us) (ts ++ ss)
  | _, _, _, _, .nil, b => b
  | _, _, _, _, .cons r rs, b => .cons r (rs.app b)
theorem Dats.take : ∀ (n : Nat) {vs : List V} {ts : List PyData}, Dats d H vs ts → Dats d H (vs.take n) (ts.take n)
  | 0, _, _, _ => .nil
  | n + 1, _, _, .nil => .nil
  | n + 1, _, _, .cons r rs => .cons r (Dats.take n rs)
theorem Dats.drop : ∀ (n : Nat) {vs : List V} {ts : List PyData}, Dats d H vs ts → Dats d H (vs.drop n) (ts.drop n)
  | 0, _, _, r => r
  | n + 1, _, _, .nil => .nil
  | n + 1, _, _, .cons r rs => Dats.drop n rs
theorem Dats.perm {vs us : List V} (p : us.Perm vs) : ∀ {ts : List PyData}, Dats d H vs ts → ∃ ss, Dats d H us ss ∧ ss.Perm ts := by
  induction p with
  | nil => exact fun h => ⟨_, h, .refl _⟩
  | cons x _ ih =>
    intro ts h
    cases h with
    | cons r rs =>
      obtain ⟨ss, h1, h2⟩ := ih rs
      exact ⟨_ :: ss, .cons r h1, .cons _ h2⟩
  | swap x y l =>
    intro ts h
    cases h with
    | cons r rs =>
      cases rs with
      | cons r2 rs2 => exact ⟨_, .cons r2 (.cons r rs2), .swap _ _ _⟩
  | trans _ _ ih1 ih2 =>
    intro ts h
    obtain ⟨s1, h1, p1⟩ := ih2 h
    obtain ⟨s2, h2, p2⟩ := ih1 h1
    exact ⟨s2, h2, p2.trans p1⟩
end
section
variable {X : Cx} {pins : List (Addr × Obj)} {σ : L2.St} {H : Hp} {s : Shared} {d : Addr}
theorem key_rd {P : Program} {w : World} {h : Heap} {k : Key} {u : Value} (e : (mixKind P w).is k u = true) : RdU h u (keyD k) := by
  rcases keyIs_shape e with ⟨i, t, rfl, rfl⟩ | ⟨x, t, rfl, rfl⟩
  · exact .int i t
  · exact .str x t
theorem keys_rd {P : Program} {w : World} {h : Heap} : ∀ {es : List DictEntry} {kvs : List (Key × Value)} {lvs : List (Key × V)}, Pairs (mixKind P w) es kvs → KV lvs kvs → RdUs h (es.map (·.key)) (lvs.map fun p => keyD p.1)
  | [], [], [], _, _ => .nil
  | e :: es, kv :: kvs, lv :: lvs, .cons h1 h2 t, .cons a r => .cons (by show RdU h e.key (keyD lv.1); rw [show lv.1 = kv.1 from a.1]; exact key_rd h1) (keys_rd t r)
  | [], _ :: _, _, h, _ => nomatch h
  | _ :: _, [], _, h, _ => nomatch h
  | [], [], _ :: _, _, h => nomatch h
  | _ :: _, _ :: _, [], _, h => nomatch h
theorem vals_kv : ∀ {es : List DictEntry} {kvs : List (Key × Value)} {lvs : List (Key × V)} {P : Program} {w : World}, Pairs (mixKind P w) es kvs → KV lvs kvs → Vals (lvs.map (·.2)) (es.map (·.val))
  | [], [], [], _, _, _, _ => .nil
  | e :: es, kv :: kvs, lv :: lvs, _, _, .cons h1 h2 t, .cons a r => .cons (by show RelV lv.2 e.val; rw [h2]; exact a.2) (vals_kv t r)
  | [], _ :: _, _, _, _, h, _ => nomatch h
  | _ :: _, [], _, _, _, h, _ => nomatch h
  | [], [], _ :: _, _, _, _, h => nomatch h
  | _ :: _, _ :: _, [], _, _, _, h => nomatch h
mutual
theorem dat_rd (I : Inv X pins σ H s) : ∀ {v : V} {u : Value} {t : PyData}, Dat d H v t → RelV v u → RdU s.heap u t
  | _, _, _, .non, r => by cases r; exact .non
  | _, _, _, .bl b, r => by cases r; exact .bl b
  | _, _, _, .int i, r => by obtain ⟨t, rfl⟩ := r; exact .int i t
  | _, _, _, .str x, r => by obtain ⟨t, rfl⟩ := r; exact .str x t
  | _, _, _, .lst (a := a) e n q, r => by
    cases r
    obtain ⟨_, its, m, rv, g⟩ := (show ObjOk X.prog X.w H s.heap a (.lst _) from I.hok a _ e)
    exact .lst g rfl rfl (by rw [show its.toArray.toList = its from rfl]; exact dats_rd I q rv)
  | _, _, _, .tup (a := a) e q, r => by
    cases r
    obtain ⟨_, its, rv, o, g, c, m, dd⟩ := (show ObjOk X.prog X.w H s.heap a (.tup _) from I.hok a _ e)
    exact .tup g c dd (by rw [show its.toArray.toList = its from rfl]; exact dats_rd I q rv)
  | _, _, _, .dct (a := a) (kvs := kvs) (ds := ds) e q, r => by
    cases r
    obtain ⟨_, lo, vs, rel, o, es, ep, ho, hc, hd, hk, hp, hn⟩ := dk_of I.hok e
    have l1 : (kvs.map fun p => keyD p.1).length = ds.length := by
      have := q.len
      rw [List.length_map] at this ⊢
      exact this
    refine .dct ho hc.1 hd lo ?_ ?_
    · rw [List.map_fst_zip (by omega)]
      exact keys_rd hp rel
    · rw [List.map_snd_zip (by omega)]
      exact dats_rd I q (vals_kv hp rel)
theorem dats_rd (I : Inv X pins σ H s) : ∀ {vs : List V} {us : List Value} {ts : List PyData}, Dats d H vs ts → Vals vs us → RdUs s.heap us ts
  | _, _, _, .nil, r => by cases r; exact .nil
  | _, _, _, .cons q qs, r => by
    cases r with
    | cons a b => exact .cons (dat_rd I q a) (dats_rd I qs b)
end
/-- repr of a list of values of any kind -/
def rReprU : List V → Hp → VK → Prop := fun xs H Q => ∃ (d p : Addr) (vs : List V) (ts : List PyData), xs = [.ref p] ∧ H p = some (.lst vs) ∧ Dats d H vs ts ∧ PyData.showableAll ts = true ∧ PyData.depthAll ts ≤ 50 ∧ (PyData.list ts).shown.length ≤ sizeLine ∧ Q (.str (PyData.list ts).shown) H
theorem call_reprU {k : Nat} (room : RoomG k X.A) : CallR X (.builtin "repr") rReprU := by
  intro pins s σ H xs us Q I r h
  obtain ⟨d, p, vs, ts, rfl, e, q, sh, dp, z, k⟩ := h
  obtain ⟨u, rfl, r1⟩ := vals1 r
  obtain rfl : u = Value.ref p := r1
  obtain ⟨_, its, m, rv, g⟩ := (show ObjOk X.prog X.w H s.heap p (.lst _) from I.hok p _ e)
  have un := room.r.units
  have dd : (PyData.list ts).depth = PyData.depthAll ts + 1 := by simp only [PyData.depth]
  exact repr_lst g rfl rfl (by rw [show its.toArray.toList = its from rfl]; exact dats_rd I q rv) sh z room.g (by rw [dd]; omega) fun h' u tk kk => ⟨.str _, H, I.kept kk, ⟨u, rfl⟩, k⟩
def rEqS : R2 := fun x y H Q => ∃ (d : Addr) (t : PyData) (z : Str), Dat d H x t ∧ y = .str z ∧ Q (.bl (isS t z)) H
def rNeS : R2 := fun x y H Q => ∃ (d : Addr) (t : PyData) (z : Str), Dat d H x t ∧ y = .str z ∧ Q (.bl (!isS t z)) H
theorem op_eqS {k : Nat} (room : RoomG k X.A) : OpR X (compareOp .Eq) rEqS := by
  intro pins s σ H x y v u Q I rx ry h
  obtain ⟨d, t, z, dt, rfl, q⟩ := h
  obtain ⟨tk, rfl⟩ := ry
  have un := room.r.units
  exact rc_str (dat_rd I dt rx) z tk (by omega) _ _ _ _ ⟨.bl _, H, I, rfl, q⟩
theorem op_neS {k : Nat} (room : RoomG k X.A) : OpR X (compareOp .NotEq) rNeS := by
  intro pins s σ H x y v u Q I rx ry h
  obtain ⟨d, t, z, dt, rfl, q⟩ := h
  obtain ⟨tk, rfl⟩ := ry
  have un := room.r.units
  exact rcne_str (dat_rd I dt rx) z tk (by omega) _ _ _ _ ⟨.bl _, H, I, rfl, q⟩
/-- x == (text,) -/
def rEqT1 (K : PySem.W.Frag) : R2 := fun x y H Q => ∃ (d l : Addr) (t : PyData) (z : Str), Dat d H x t ∧ y = .ref l ∧ SqT K H l [.str z] ∧ Q (.bl (isS1 t z)) H
def rNeT1 (K : PySem.W.Frag) : R2 := fun x y H Q => ∃ (d l : Addr) (ts : List PyData) (z : Str), Dat d H x (.tuple ts) ∧ y = .ref l ∧ SqT K H l [.str z] ∧ Q (.bl (!isS1 (.tuple ts) z)) H
theorem one_tup {l : Addr} {z : Str} (I : Inv X pins σ H s) (h : SqT X.K H l [.str z]) : ∃ t, s.heap.IsTuple l #[.str z t] := by
  obtain ⟨its, rv, ⟨o, h1, h2, n, h3⟩, hz⟩ := I.tuple h
  cases rv with
  | cons a b =>
    cases b
    obtain ⟨t, rfl⟩ := a
    exact ⟨t, o, h1, h2, n, h3⟩
theorem op_eqT1 {k : Nat} (room : RoomG k X.A) : OpR X (compareOp .Eq) (rEqT1 X.K) := by
  intro pins s σ H x y v u Q I rx ry h
  obtain ⟨d, l, t, z, dt, rfl, hl, q⟩ := h
  obtain rfl : u = Value.ref l := ry
  obtain ⟨tk, it⟩ := one_tup I hl
  have un := room.r.units
  exact rc_tup1 (dat_rd I dt rx) it (by omega) _ _ _ _ ⟨.bl _, H, I, rfl, q⟩
theorem op_neT1 {k : Nat} (room : RoomG k X.A) : OpR X (compareOp .NotEq) (rNeT1 X.K) := by
  intro pins s σ H x y v u Q I rx ry h
  obtain ⟨d, l, ts, z, dt, rfl, hl, q⟩ := h
  obtain rfl : u = Value.ref l := ry
  obtain ⟨tk, it⟩ := one_tup I hl
  have un := room.r.units
  cases dat_rd I dt rx with
  | @tup a o vs n xs h1 h2 h3 r =>
    obtain ⟨e, he, ev⟩ := tup1_all (A' := X.A.in1) (y := z) (t := tk) r (by show X.A.units + 1 < cLine; omega)
    rw [← ev] at q
    exact SeqAt.RcNeAt.tuples (items := vs.toList.toArray) (by rw [Array.toArray_toList]; exact ⟨_, h1, h2, _, h3⟩) it (by omega) he _ _ _ _ ⟨.bl _, H, I, rfl, q⟩
/-- x == (), x a tuple -/
def rEqT0 (K : PySem.W.Frag) : R2 := fun x y H Q => ∃ (a l : Addr) (xs : List V), x = .ref a ∧ y = .ref l ∧ SqT K H a xs ∧ SqT K H l [] ∧ Q (.bl (decide (xs.length = 0))) H
theorem op_eqT0 {k : Nat} (room : RoomG k X.A) : OpR X (compareOp .Eq) (rEqT0 X.K) := by
  intro pins s σ H x y v u Q I rx ry h
  obtain ⟨a, l, xs, rfl, rfl, ha, hl, q⟩ := h
  obtain rfl : v = Value.ref a := rx
  obtain rfl : u = Value.ref l := ry
  obtain ⟨its, rv, it, hz⟩ := I.tuple ha
  obtain ⟨its2, rv2, it2, hz2⟩ := I.tuple hl
  cases rv2
  have un := room.r.units
  have e : its.toArray.size = xs.length := by rw [List.size_toArray]; exact rv.length.symm
  have r := rc_tup0 (A := X.A) it it2 (by omega)
  rw [e] at r
  exact r _ _ _ _ ⟨.bl _, H, I, rfl, q⟩
/-- l == [], l != [] -/
def rEqL0 : R2 := fun x y H Q => ∃ (a l : Addr) (xs : List V), x = .ref a ∧ y = .ref l ∧ H a = some (.lst xs) ∧ H l = some (.lst []) ∧ Q (.bl (decide (xs.length = 0))) H
def rNeL0 : R2 := fun x y H Q => ∃ (a l : Addr) (xs : List V), x = .ref a ∧ y = .ref l ∧ H a = some (.lst xs) ∧ H l = some (.lst []) ∧ Q (.bl (!decide (xs.length = 0))) H
theorem lst_at {a : Addr} {xs : List V} (I : Inv X pins σ H s) (e : H a = some (.lst xs)) : ∃ its : List Value, s.heap.IsList a its.toArray ∧ its.length = xs.length := by
  obtain ⟨_, its, m, rv, g⟩ := (show ObjOk X.prog X.w H s.heap a (.lst _) from I.hok a _ e)
  exact ⟨its, ⟨_, g, rfl, _, rfl⟩, rv.length.symm⟩
theorem op_eqL0 {k : Nat} (room : RoomG k X.A) : OpR X (compareOp .Eq) rEqL0 := by
  intro pins s σ H x y v u Q I rx ry h
  obtain ⟨a, l, xs, rfl, rfl, ha, hl, q⟩ := h
  obtain rfl : v = Value.ref a := rx
  obtain rfl : u = Value.ref l := ry
  obtain ⟨its, i1, e1⟩ := lst_at I ha
  obtain ⟨its2, i2, e2⟩ := lst_at I hl
  have un := room.r.units
  have n2 : its2 = [] := List.length_eq_zero_iff.mp e2
  subst n2
  by_cases z : xs.length = 0
  · have n1 : its = [] := List.length_eq_zero_iff.mp (e1.trans z)
    subst n1
    rw [decide_eq_true z] at q
    have r := SeqAt.RcAt.lists (A := X.A) (e := fun _ => true) i1 i2 rfl (by omega) fun j h1 => absurd h1 (Nat.not_lt_zero j)
    exact r _ _ _ _ ⟨.bl _, H, I, rfl, q⟩
  · rw [decide_eq_false z] at q
    have r := SeqAt.RcAt.lists_lengths (A := X.A) i1 i2 (by rw [List.size_toArray, List.size_toArray, e1]; simpa using z) (by omega)
    exact r _ _ _ _ ⟨.bl _, H, I, rfl, q⟩
theorem op_neL0 {k : Nat} (room : RoomG k X.A) : OpR X (compareOp .NotEq) rNeL0 := by
  intro pins s σ H x y v u Q I rx ry h
  obtain ⟨a, l, xs, rfl, rfl, ha, hl, q⟩ := h
  obtain rfl : v = Value.ref a := rx
  obtain rfl : u = Value.ref l := ry
  obtain ⟨its, i1, e1⟩ := lst_at I ha
  obtain ⟨its2, i2, e2⟩ := lst_at I hl
  have un := room.r.units
  have n2 : its2 = [] := List.length_eq_zero_iff.mp e2
  subst n2
  by_cases z : xs.length = 0
  · have n1 : its = [] := List.length_eq_zero_iff.mp (e1.trans z)
    subst n1
    rw [decide_eq_true z] at q
    have r := SeqAt.RcNeAt.lists (A := X.A) (e := fun _ => true) i1 i2 rfl (by omega) fun j h1 => absurd h1 (Nat.not_lt_zero j)
    exact r _ _ _ _ ⟨.bl _, H, I, rfl, q⟩
  · rw [decide_eq_false z] at q
    have r := SeqAt.RcNeAt.lists_lengths (A := X.A) i1 i2 (by rw [List.size_toArray, List.size_toArray, e1]; simpa using z) (by omega)
    exact r _ _ _ _ ⟨.bl _, H, I, rfl, q⟩
/-- x in l, l a list of texts -/
def rInL : R2 := fun x y H Q => ∃ (d l : Addr) (t : PyData) (ss : List Str), Dat d H x t ∧ y = .ref l ∧ H l = some (.lst (ss.map V.str)) ∧ Q (.bl (ss.any fun z => isS t z)) H
def eStr (t : PyData) : Value → Bool := fun y => match y with
  | .str z _ => isS t z
  | _ => false
theorem any_str (t : PyData) : ∀ {ss : List Str} {its : List Value}, Vals (ss.map V.str) its → its.any (eStr t) = ss.any (fun z => isS t z) ∧ ∀ y ∈ its, ∃ z tk, y = Value.str z tk
  | [], [], _ => ⟨rfl, fun _ m => nomatch m⟩
  | [], _ :: _, h => nomatch h
  | _ :: _, [], h => nomatch h
  | s :: ss, u :: its, .cons a b => by
    obtain ⟨tk, rfl⟩ := a
    obtain ⟨h1, h2⟩ := any_str t b
    refine ⟨?_, fun y m => ?_⟩
    · rw [List.any_cons, List.any_cons, h1]
      rfl
    · rcases List.mem_cons.mp m with e | m
      · exact ⟨s, tk, e⟩
      · exact h2 y m
theorem op_inL {k : Nat} (room : RoomG k X.A) : OpR X (compareOp .In) rInL := by
  intro pins s σ H x y v u Q I rx ry h
  obtain ⟨d, l, t, ss, dt, rfl, hl, q⟩ := h
  obtain rfl : u = Value.ref l := ry
  obtain ⟨_, its, m, rv, g⟩ := (show ObjOk X.prog X.w H s.heap l (.lst _) from I.hok l _ hl)
  have un := room.r.units
  have rd := dat_rd I dt rx
  obtain ⟨e1, e2⟩ := any_str t rv
  refine SeqAt.in_listAt (items := its.toArray) (eStr t) ⟨_, g, rfl, _, rfl⟩ (fun y hy => ?_) ⟨.bl _, H, I, rfl, ?_⟩
  · obtain ⟨z, tk, rfl⟩ := e2 y (by simpa using hy)
    exact eq_str2 rd z tk (by show X.A.units + 1 < cLine; omega)
  · rw [show its.toArray.any (eStr t) = its.any (eStr t) from List.any_toArray ..] at *
    rw [e1]
    exact q
end
end G9

/-! enumerate over a tuple: made, turned, walked in loops and comprehensions. -/
namespace PySem
section
variable {prog : Program} {w : World} {A : Around} {E : Value → Shared → Prop} {s : Shared}
set_option maxHeartbeats 1000000 in
theorem g9_enum_new {v : Value} {o : Obj} {H : Heap → Prop} (B : Begins v o H) :
    Meets (Builtin.«enumerate.__new__» ⟨[.type "enumerate", v], []⟩) (fun _ R s => H s.heap ∧
      R (.ok (.ret (.ref (s.heap.push o).objs.size))) { s with heap := (s.heap.push o).push { cls := .type "enumerate", data := .fields #[.none, .bool false, .ref s.heap.objs.size, rawInt 0, .none, .none] } }) :=
  .of_wp fun prog w A R s h => by
    obtain ⟨hp, g, d, tk, os⟩ := s; obtain ⟨h1, h⟩ := h
    have hsub := sub_enumerate
    have q1 : ∀ {A' : Around} {E : Value → Shared → Prop} {Q : Value → Shared → Prop}, Q (.ref hp.objs.size) ⟨hp.push o, g, d, tk, os⟩ → wpAny (model prog w) A' (pyIter v) Q E ⟨hp, g, d, tk, os⟩ :=
      fun q => B.iter prog w _ _ ⟨hp, g, d, tk, os⟩ _ h1 q
    wp_walk using q1
    refine wpAny_stack_any fun st => wpAny_pure ?_
    split
    · rename_i c _ _ _ _ _
      cases (c == Value.type "enumerate")
      · wp_walk using q1
        exact ⟨_, rfl, h⟩
      · wp_walk using q1
        exact ⟨_, rfl, h⟩
    · wp_walk using q1
      exact ⟨_, rfl, h⟩
theorem g9_enum_begins {v : Value} {o : Obj} {H : Heap → Prop} {Q : Value → Shared → Prop} (B : Begins v o H) (h1 : H s.heap)
    (h : ∀ h', IsEnum h' (s.heap.objs.size + 1) s.heap.objs.size 0 .none → h'.get? s.heap.objs.size = some o → h'.objs.size = s.heap.objs.size + 2 →
      (∀ b o, s.heap.get? b = some o → h'.get? b = some o) → Q (.ref (s.heap.objs.size + 1)) { s with heap := h' }) :
    wpAny (model prog w) A (call (.type "enumerate") [v]) Q E s := by
  refine callType_new F.called_enumerate (by decide) (F.typeCall_enumerate_1 _) (F.newCall_enumerate_1 _) (fun obj => F.args_object_init_2 obj _) F.entry_enumerate_new (g9_enum_new B) ⟨h1, ?_⟩
  have hz : (s.heap.push o).objs.size = s.heap.objs.size + 1 := Heap.size_push ..
  show _ ∧ _
  rw [hz]
  have he : IsEnum ((s.heap.push o).push { cls := .type "enumerate", data := .fields #[.none, .bool false, .ref s.heap.objs.size, rawInt 0, .none, .none] }) (s.heap.objs.size + 1) s.heap.objs.size 0 .none := by
    have := Heap.get?_push_size (s.heap.push o) (o := { cls := .type "enumerate", data := .fields #[.none, .bool false, .ref s.heap.objs.size, rawInt 0, .none, .none] }) rfl
    rw [hz] at this; exact this
  exact ⟨⟨_, he, rfl⟩, h _ he (Heap.get?_push_of_some _ (Heap.get?_push_size _ B.free)) (by rw [Heap.size_push, hz]) fun b o x => Heap.get?_push_of_some _ (Heap.get?_push_of_some _ x)⟩
end
end PySem
namespace G9
open PySem PySem.Spec PyProof.Rows L2
/-- the tuple at a, each item in a new pair with its place -/
def Itet (K : PySem.W.Frag) (a : Addr) : It :=
  ⟨fun i H => ∃ (xs : List V) (x : V), SqT K H a xs ∧ xs[i]? = some x, fun i H v H' => ∃ T x, v = .ref T ∧ H T = none ∧ H' = upd H T (.tup [.int (i : Nat), x]) ∧ ∀ xs, SqT K H a xs → xs[i]? = some x, fun i H => ∃ xs : List V, SqT K H a xs ∧ xs.length ≤ i⟩
theorem turn_enumT {P : Program} {w : World} {K : PySem.W.Frag} {elts : List Expr} {kk : Nat} {tpos : Pos} (a e it : Addr) (ne : e ≠ it) (nea : e ≠ a) (nia : it ≠ a) :
    Turn P w K (.Tuple elts kk tpos) (Itet K a) [e, it] e (fun i h => (∃ old, IsEnum h e it ((i : Nat) : Int) old) ∧ h.IsTupleIter it a i) where
  mem := by simp
  obj := fun i h st b hb => by
    obtain ⟨⟨old, he⟩, ⟨o, ho, hc, hd⟩⟩ := st
    have e' : b = e ∨ b = it := by simpa using hb
    rcases e' with z | z
    · rw [z]; exact ⟨_, he, fun v q => nomatch q⟩
    · rw [z]; exact ⟨o, ho, fun v q => by rw [hd] at q; cases q⟩
  keep := fun i h h' st k => let ⟨⟨old, he⟩, hi⟩ := st; ⟨⟨old, k e (by simp) _ he⟩, hi.at fun o q => k it (by simp) o q⟩
  item := by
    intro X hP hw hK hc i pins s σ H E I hf st hg
    subst hP hw hK
    obtain ⟨⟨old, he⟩, hit⟩ := st
    obtain ⟨xs, x, hq, hx⟩ := hg
    obtain ⟨its, rv, p, hz⟩ := I.tuple hq
    obtain ⟨u, hu, ru⟩ := rv.get hx
    have hel : e < s.heap.objs.size := Heap.lt_size he
    have hil : it < s.heap.objs.size := by obtain ⟨_, q, _⟩ := hit; exact Heap.lt_size q
    have D := Draws.tuple (prog := X.prog) (w := X.w) (A := X.A.in1) (I.ok.hd hc) it a (Ne.symm nia) its.toArray
    have hlt : i < its.toArray.size := by
      have h1 := (List.getElem?_eq_some_iff.mp hu).1
      simpa using h1
    refine wpAny_pyNext_enum_itemD D he ⟨hit, p⟩ hlt ne (by simp [ne, nea]) fun y h' tk hy ho hst hT hsz hk => ?_
    have ey : y = u := by
      have h1 : its[i]? = some y := by simpa using hy
      rw [hu] at h1
      exact (Option.some.inj h1).symm
    subst ey
    refine ⟨_, rfl, wpAny_letOwnedTupleGo_enum (s := { s with heap := h', toks := tk + 1 }) ho fun h'' he' sb => ?_⟩
    have hT2 : h''.get? s.heap.objs.size = some { cls := .type "tuple", data := .seq #[.int i tk, y] } := (sb.2 _ (Nat.ne_of_gt hel)).trans hT
    have new : ObjOk X.prog X.w (upd H s.heap.objs.size (.tup [.int (i : Nat), x])) h'' s.heap.objs.size (.tup [.int (i : Nat), x]) :=
      ⟨by show 2 ≤ sizeLine; decide, [.int i tk, y], .cons ⟨_, rfl⟩ (.cons ru .nil), ⟨_, hT2, rfl, _, rfl⟩⟩
    have I1 : Inv X pins σ (upd H s.heap.objs.size (.tup [.int (i : Nat), x])) { s with heap := h'', toks := tk + 1 } :=
      I.turnedNew (ch := [e, it]) (fun b ob hb q => (sb.2 b (fun z => hb (by simp [z]))).trans (hk b ob (fun z => hb (by simp [z])) (fun z => hb (by simp [z])) q)) hf (Nat.le_refl _) new
    refine ⟨.ref s.heap.objs.size, _, I1, rfl, ⟨_, x, rfl, I.hok.fresh (Nat.le_refl _), rfl, fun ys hy => by rw [I.tuple_inj hy hq]; exact hx⟩, ⟨⟨y, ?_⟩, hst.1.at fun o q => (sb.2 it (Ne.symm ne)).trans q⟩, fun b hb => ?_⟩
    · have e1 : ((i + 1 : Nat) : Int) = (i : Int) + 1 := by omega
      rw [e1]; exact he'
    · have hb' : b < s.heap.objs.size := by
        have e' : b = e ∨ b = it := by simpa using hb
        rcases e' with z | z
        · rw [z]; exact hel
        · rw [z]; exact hil
      rw [upd_ne (Nat.ne_of_lt hb')]
      exact (hf b hb).1
  done := by
    intro X hP hw hK hc i pins s σ H E I hf st hg
    subst hP hw hK
    obtain ⟨⟨old, he⟩, hit⟩ := st
    obtain ⟨xs, hq, hx⟩ := hg
    obtain ⟨its, rv, p, hz⟩ := I.tuple hq
    obtain ⟨f0, f1, f2, f3, f4, f5⟩ := hf it (by simp)
    have hl := rv.length
    have hle : its.toArray.size ≤ i := by rw [List.size_toArray]; omega
    have hT : s.TypeIs (.ref e) "enumerate" := ⟨_, he, rfl⟩
    unfold pyNext
    refine wpAny_bind (wpAny_attempt (wpAny_callSpecial?_slot (name := Str.ofString "__next__") hT F.slot_enumerate_next
      (wpAny_call_entry F.slot_enumerate_next hT F.entry_enumerate_next ?_ (F.args_enumerate_next_1 _))))
    show wpAny _ _ (field (.ref e) 2 >>= _) _ _ _
    refine wpAny_bind (wpAny_field he rfl (x := .ref it) rfl ?_)
    refine wpAny_bind (wpAny_nextOf_tuple_end (I.ok.hd hc) hit p (by simp only [Array.getElem?_eq_none_iff]; exact hle) fun h' x he' hx' => ?_)
    obtain ⟨o, ho, hc'⟩ := hx'
    refine wpAny_bind (wpAny_isInstance (T := "StopIteration") (b := true) ⟨o, ho, hc'⟩ isSubtype_stop ?_)
    exact wpAny_pure ⟨rfl, I.turned (t' := s.toks) (fun b o hb q => he' b o hb q) f0 f1 f3 f4 f5⟩
  self := fun A i s Q E st h => let ⟨⟨_, he⟩, _⟩ := st; wpAny_pyIter_enum he h
def iEnumT (K : PySem.W.Frag) (ta : TA) : TI := fun σ H R => ta σ H fun vs H1 => ∃ a xs, vs = [.ref a] ∧ SqT K H1 a xs ∧ R (Itet K a) H1
theorem pi_enumT {X : Cx} {e : Expr} {ta : TA} {p pos tpos : Pos} {elts : List Expr} {kk : Nat} (hg : Gl X "enumerate") (hm : X.mg "enumerate" = none) (ha : PA X [e] ta) (hs : starEach [e] X.env = [(false, eval e X.env)] := by rfl) :
    PI X (.Tuple elts kk tpos) (.Call (.Name "enumerate" p) [e] [] pos) (iEnumT X.K ta) := by
  refine ⟨fun pins s σ H R I h => ?_⟩
  refine Call_ (ld_blt I hg hm boot_enumerate (PyProof.Rows.callWith_type1 (thn (ha.run pos pins s σ H _ I h) fun us s1 ⟨vs, H1, I1, r1, q1⟩ => ?_) hs rfl))
  obtain ⟨a, xs, ex, hq, q⟩ := q1
  subst ex
  cases r1 with
  | cons r rr =>
    cases rr
    cases r
    obtain ⟨its, rv, p', hz⟩ := I1.tuple hq
    refine g9_enum_begins (begins_tuple a its.toArray) p' fun h' he ho hsz hk => wpAny_pyIter_enum he ?_
    have I2 : Inv X pins σ H1 { s1 with heap := h' } := I1.kept (t' := s1.toks) hk
    have al : a < s1.heap.objs.size := by obtain ⟨_, q, _⟩ := id p'; exact Heap.lt_size q
    refine ⟨s1.heap.objs.size + 1, [s1.heap.objs.size + 1, s1.heap.objs.size], _, _, H1, rfl, I2, turn_enumT a (s1.heap.objs.size + 1) s1.heap.objs.size (Nat.succ_ne_self _) (fun z => by rw [← z] at al; exact absurd al (Nat.not_lt.mpr (Nat.le_succ _))) (fun z => by rw [← z] at al; exact absurd al (Nat.lt_irrefl _)), ⟨⟨.none, he⟩, ⟨_, ho, rfl, rfl⟩⟩, fun b hb => ?_, q⟩
    have e' : b = s1.heap.objs.size + 1 ∨ b = s1.heap.objs.size := by simpa using hb
    have hle : s1.heap.objs.size ≤ b := by
      rcases e' with z | z
      · rw [z]; exact Nat.le_add_right _ _
      · rw [z]; exact Nat.le_refl _
    exact I1.fpOk hle (I1.hok.fresh hle)
section
variable {K : PySem.W.Frag} {a : Addr} {xs : List V} {σ : L2.St} {H : Hp} {Q : VK} {D : Ends} {g : TG} {t : TT} {te : TE} {tbd : TS} {tar : TA} {i j : Nat}
theorem walk_enumT : Walk (Itet K a) xs.length (fun H => SqT K H a xs) (YPair (fun i => some (.int (i : Nat))) (fun i => xs[i]?)) := by
  refine ⟨fun i _ hi q => ⟨xs, xs[i], q, by simp [hi]⟩, fun _ q => ⟨xs, q, Nat.le_refl _⟩, fun i H v H' _ q y => ?_⟩
  obtain ⟨T, x, h1, h2, h3, h4⟩ := y
  exact ⟨T, .int (i : Nat), x, h1, h2, h3, rfl, h4 xs q⟩
def gPair (K : PySem.W.Frag) (i j : Nat) : TG := gTup K 2 (gCons (gName i) (gCons (gName j) gNil))
theorem l_pair {i j : Nat} {T : Addr} {x y : V} {Q : L2.St → Hp → Prop} (h : SqT K H T [x, y]) (q : Q ((σ.set i (some x)).set j (some y)) H) : gPair K i j (.ref T) σ H Q :=
  ⟨T, _, rfl, h, rfl, ⟨_, _, rfl, ⟨_, _, rfl, ⟨rfl, q⟩⟩⟩⟩
theorem pg_pair {X : Cx} {i j kk : Nat} {x y : Str} {px py pos : Pos} (hc : X.calm = true) (hi : PG X (.Name x px) (gName i)) (hj : PG X (.Name y py) (gName j)) : PG X (.Tuple [.Name x px, .Name y py] kk pos) (gPair X.K i j) :=
  pg_tup (n := 2) hc (pgs_cons hi (pgs_cons hj pgs_nil)) rfl rfl
/-- for i, x in enumerate(tuple) -/
def EForT (K : PySem.W.Frag) (g : TG) (tb : TS) (D : Ends) (σ : L2.St) (us : List V) (H1 : Hp) : Prop := ∃ a xs, us = [.ref a] ∧ SqT K H1 a xs ∧ WFor (Itet K a) g tb D σ H1
theorem s_forET (q : tar σ H fun us H1 => EForT K g tbd D σ us H1) : tFor (iEnumT K tar) g tbd D σ H := q
theorem l_forET (h : SqT K H a xs) (Pv : Nat → L2.St → Hp → Prop) (p0 : Pv 0 σ H) (stay : ∀ n σ H, n ≤ xs.length → Pv n σ H → SqT K H a xs)
    (turn : ∀ (n : Nat) x σ H H', xs[n]? = some x → Pv n σ H → Same H H' → tbd { D with nx := Pv (n + 1), ct := Pv (n + 1), bk := D.nx } ((σ.set i (some (.int n))).set j (some x)) H')
    (done : ∀ σ H, Pv xs.length σ H → D.nx σ H) : EForT K (gPair K i j) tbd D σ [.ref a] H := by
  refine ⟨a, xs, rfl, h, for_it walk_enumT Pv p0 stay (fun n v σ H H' hn p y => ?_) done⟩
  obtain ⟨T, u, x, rfl, nT, rfl, e1, e2⟩ := y
  obtain rfl := Option.some.inj e1
  exact l_pair (tup_at upd_same) (turn n x σ H _ e2 p (Same.upd0 nT))
/-- [f(i, x) for i, x in enumerate(tuple)] -/
def ELcT (K : PySem.W.Frag) (g : TG) (tt : TT) (te : TE) (vs : List Nat) (σ : L2.St) (Q : VK) (us : List V) (H1 : Hp) : Prop := ∃ a xs, us = [.ref a] ∧ SqT K H1 a xs ∧ WLc (Itet K a) g tt te vs σ Q H1
theorem s_lcET {vs : List Nat} (q : tar σ H fun us H1 => ELcT K g t te vs σ Q us H1) : tLc (iEnumT K tar) g t te vs σ H Q := q
theorem l_lcET {ws : List V} (h : SqT K H a xs) (len : ws.length = xs.length) (short : xs.length ≤ 100000)
    (val : ∀ (n : Nat) x w, xs[n]? = some x → ws[n]? = some w → ∀ G, Same H G → ToV te (((wipe σ [i, j]).set i (some (.int n))).set j (some x)) G w)
    (fin : ∀ D G, H D = none → Same H G → G D = some (.lst ws) → Q (.ref D) G) (ij : i ≠ j) : ELcT K (gPair K i j) tYes te [i, j] σ Q [.ref a] H := by
  refine ⟨a, xs, rfl, h, fun D hD => ?_⟩
  refine lc_it walk_enumT (fun n G => Same H G ∧ G D = some (.lst (ws.take n))) ⟨Same.upd0 hD, by rw [upd_same]; rfl⟩ (fun n G _ p => sqt_same p.1 h) (fun n v G G' hn p y => ?_) (fun G p => ?_)
  · obtain ⟨T, u, x, rfl, nT, rfl, e1, e2⟩ := y
    obtain rfl := Option.some.inj e1
    have hw : n < ws.length := by omega
    have ew : ws[n]? = some ws[n] := List.getElem?_eq_getElem hw
    have s1 : Same G (upd G T (.tup [.int (n : Nat), x])) := Same.upd0 nT
    refine l_pair (tup_at upd_same) ⟨?_, ?_⟩
    · show ((((((σ.set j none).set i none).set i (some (V.int n))).set j (some x)).set j none).set i none) = (σ.set j none).set i none
      rw [List.set_set, List.set_set, List.set_comm _ _ ij, List.set_set, List.set_set]
    · refine s_yes (i_t rfl ?_)
      refine val n x _ e2 ew _ (p.1.trans s1) _ fun G2 s2 => ?_
      refine ⟨_, s2 _ _ (s1 _ _ p.2), ?_, Same.setNew ((p.1.trans s1).trans s2) hD, ?_⟩
      · rw [List.length_take, sizeLine_eq]
        omega
      · rw [upd_same, take_succ_of ew]
  · rw [← len, List.take_length] at p
    exact fin D G hD p.1 p.2
end
end G9

/-! for .. in x, x of an own class whose __iter__ gives a fresh iterator over a dict's keys. -/
namespace G9
open PySem PySem.Spec PyProof.Rows L2
/-- a def whose promise may hang on how great the heap is when it is called -/
structure FnN (P : Program) (w : World) (K : PySem.W.Frag) (mg : Str → Option Value) (base : Heap) (CX : CXT) (k : Nat) (f : Addr) (fd : FuncData) (ps : List Str) (spn : Nat → Sp) : Prop where
  count : ∀ n vs H Q E, spn n vs H Q E → vs.length = ps.length
  goes : ∀ (A : Around) (fs : List Env) (s : Shared) (H : Hp) (as : Args) (us : List Value) (vs : List V) (Q : VK) (E : XK), RoomG k A → Env0 P w K mg base A fs s H →
    BindsTo s fd as (ps.zip us) → Vals vs us → spn s.heap.objs.size vs H Q E → codeAny (model P w) A (.call (.ref f) as) (CR CX fs P w H s Q E) s
section
variable {P : Program} {w : World} {K : PySem.W.Frag} {mg : Str → Option Value} {base : Heap} {CX : CXT} {k : Nat} {f : Addr} {fd : FuncData} {ps N : List Str} {spn : Nat → Sp}
theorem by_bodyN {name qual : Str} {params : Arguments} {body : List Stmt} {scope : Scope} {dV kV doc pm cdv ct oc : Value} {an od : Option Addr} {osl : Array (Option Value)}
    (at_ : K.lookup f = some ⟨oc, od, .func (PySem.W.fnOf name qual params body scope dV kV doc pm an cdv ct), osl⟩) (cd : PySem.W.codeIn K cdv qual = true) (S : FnScope N ps scope)
    (count : ∀ n vs H Q E, spn n vs H Q E → vs.length = ps.length)
    (hb : ∀ (A : Around) (fs : List Env) (s : Shared) (H : Hp) (vs : List V) (Q : VK) (E : XK), RoomG k (A.deeper (envOfC qual scope s.heap.objs.size f cdv)) → spn s.heap.objs.size vs H Q E →
      ∃ t, PSs (cxOf CX P w K mg base N qual scope f cdv A fs s H E) body t ∧ t { nx := fun _ G => Q .non G, rt := Q } (start N vs) H) :
    FnN P w K mg base CX (k + 1) f (PySem.W.fnOf name qual params body scope dV kV doc pm an cdv ct) ps spn := by
  constructor
  · exact count
  intro A fs s H as us vs Q E room env bind rel want
  have same := count _ _ _ _ _ want
  have inS : K.In s.heap := env.mod.kin.keeps fun b o z => (env.bs b o z).1
  have noLim : s.heap.NoLimit := env.mod.nolimit.keeps fun b o z => (env.bs b o z).1
  have kinds : ∀ y ∈ ps.zip us, scope.names.lookup y.1 = some .local ∨ (scope.names.lookup y.1 = some .cell ∧ ((cellsFrom (s.heap.objs.size + 1) scope.names []).lookup y.1).isSome = true) := by
    rintro ⟨n, v⟩ hy
    rcases S.par n (List.of_mem_zip hy).1 with z | z
    · exact Or.inl z
    · exact Or.inr ⟨z, PySem.W.cellsFrom_some _ _ _ (.inl z)⟩
  refine codeAny_call_function room.r.depth (inS _ _ at_) rfl S.co S.gen rfl (PySem.W.codeRec_of inS cd) (bind _ _ _ _ ?_)
  refine wpAny_newFunctionEnv_cells S.kind kinds fun en ee s1 x => ?_
  subst ee
  refine ⟨noLim.keeps x.toInCall.keep, codeAny_func ?_⟩
  obtain ⟨t, ht, hq⟩ := hb A fs s H vs Q E ⟨room.r.deeper _, room.g⟩ want
  have J := inv_start (CX := CX) (E := E) S room.r.hd env same rel x
  have done : ∀ {τ : L2.St} {G : Hp} {v : V} {u : Value} {z : Shared}, Inv (cxOf CX P w K mg base N qual scope f cdv A fs s H E) [] τ G z → RelV v u → Q v G → CE fs P w H s Q u z :=
    fun {_ G v _ _} I r q => ⟨v, G, I.os, I.bare, I.base, I.hok, r, q⟩
  refine wpAny_mono (ht.run [] s1 (start N vs) H _ J hq) ?_ fun _ _ z => z
  intro fl z hz
  cases fl with
  | next =>
    obtain ⟨_, _, I, q⟩ := hz
    exact done (v := V.non) (u := Value.none) I rfl q
  | ret u =>
    obtain ⟨_, _, _, I, r, q⟩ := hz
    exact done I r q
  | brk => exact hz.elim fun _ h => h.elim fun _ h => h.2.elim
  | cont => exact hz.elim fun _ h => h.elim fun _ h => h.2.elim
theorem okN {x qual : Str} {st : Stmt} (F : Fun K x qual st f fd) (S : FnScope N ps (defScope st)) (count : ∀ n vs H Q E, spn n vs H Q E → vs.length = ps.length)
    (hb : ∀ (cdv : Value) (A : Around) (fs : List Env) (s : Shared) (H : Hp) (vs : List V) (Q : VK) (E : XK), RoomG k (A.deeper (envOfC qual (defScope st) s.heap.objs.size f cdv)) → spn s.heap.objs.size vs H Q E →
      ∃ t, PSs (cxOf CX0 P w K mg base N qual (defScope st) f cdv A fs s H E).nox (defBody st) t ∧ t { nx := fun _ G => Q .non G, rt := Q } (start N vs) H) : FnN P w K mg base CX0 (k + 1) f fd ps spn := by
  obtain ⟨_, _, _, _, _, _, cdv, _, _, rfl, lk, cd⟩ := F.ex
  refine by_bodyN lk cd S count fun A fs s H vs Q E room want => ?_
  obtain ⟨t, h, q⟩ := hb cdv A fs s H vs Q E room want
  exact ⟨t, h.nox, q⟩
end
/-- a fresh iterator over the keys of the dict at d -/
def keyO (d n ep : Nat) : Obj := { cls := .type "dict_keyiterator", data := .fields #[.ref d, .int 0 0, .int n 0, .int ep 0] }
def KeyO (d p n ep : Nat) : HO := .ext fun h => h.get? p = some (keyO d n ep)
def rIterK (n : Nat) : List V → Hp → VK → Prop := fun xs H Q => ∃ (d : Addr) (o : Obj) (kvs : List (Key × V)), xs = [.ref d] ∧ H d = some (.frz o (.dK kvs)) ∧ ∀ it es ep, o.data = .dict es ep → H it = none → n ≤ it → Q (.ref it) (upd H it (KeyO d it kvs.length ep))
section
variable {X : Cx}
theorem call_iterK : CallR X (.builtin "iter") (rIterK X.s_0.heap.objs.size) := by
  intro pins s σ H xs us Q I r h
  obtain ⟨d, o, kvs, rfl, hd, q⟩ := h
  obtain ⟨u, rfl, ru⟩ := vals1 r
  obtain rfl : u = Value.ref d := ru
  obtain ⟨hs, hgd, hx, es, ep, vs, hdt, hsz, kv, hm⟩ := I.frzK hd
  refine Calls.call_function_entry (by decide +kernel) (by decide +kernel) PySem.W.kdk_entry_iter (PySem.W.kdk_args_iter _) ?_
  unfold Builtin.«iter»
  refine wpAny_bind (m := PySem.someArgs "iter" 1 2 _) (wpAny_of_eq (a := [Value.ref d]) (by first | rfl | kernel_rfl!) ?_)
  show wpAny _ _ (pyIter (.ref d) >>= _) _ _ _
  refine wpAny_bind (iter_keys hs hgd hx hdt ?_)
  refine wpAny_pure ⟨_, rfl, ?_⟩
  have ok : ObjOk X.prog X.w (upd H s.heap.objs.size (KeyO d s.heap.objs.size kvs.length ep)) (s.heap.push { cls := .type "dict_keyiterator", data := .fields #[.ref d, .int 0 0, .int es.size 0, .int ep 0] }) s.heap.objs.size (KeyO d s.heap.objs.size kvs.length ep) := by
    have g : (s.heap.push { cls := .type "dict_keyiterator", data := .fields #[.ref d, .int 0 0, .int es.size 0, .int ep 0] }).get? s.heap.objs.size = some (keyO d kvs.length ep) := by
      rw [← hsz]
      exact Heap.get?_push_size _ rfl
    exact ⟨g, ⟨_, g⟩, fun h1 h2 z k => k _ z⟩
  exact ⟨.ref s.heap.objs.size, _, I.laid (t' := s.toks) (fun b u e => Heap.get?_push_of_some _ e) (Nat.le_refl _) ok, rfl, q _ es ep hdt (I.hok.fresh (Nat.le_refl _)) I.sz⟩
end
/-- what __iter__ promises: iter of the dict in the field fl -/
def spIterK (C : Addr) (fl : Str) (n : Nat) : Sp := fun vs H Q _ => ∃ (a dx : Addr) (fs : List (Str × V)) (p : Addr) (od : Obj) (kvs : List (Key × V)), vs = [.ref a] ∧ H a = some (.ins C dx fs) ∧ fs.lookup fl = some (.ref p) ∧ H p = some (.frz od (.dK kvs)) ∧
  ∀ it es ep, od.data = .dict es ep → H it = none → n ≤ it → Q (.ref it) (upd H it (KeyO p it kvs.length ep))
def iOwnK (C : Addr) (fl : Str) (te : TE) : TI := fun σ H R => te σ H fun x H1 => ∃ (a dx : Addr) (fs : List (Str × V)) (p : Addr) (od : Obj) (kvs : List (Key × V)), x = .ref a ∧ H1 a = some (.ins C dx fs) ∧ fs.lookup fl = some (.ref p) ∧ H1 p = some (.frz od (.dK kvs)) ∧ R (Itk p od kvs) H1
section
variable {X : Cx} {tg e : Expr} {te : TE} {k : Nat} {f C : Addr} {fd : FuncData} {ps : List Str} {fl : Str}
theorem pi_ownK (D : Dun X.K C "__iter__" f) (F : FnN X.prog X.w X.K X.mg X.base CX0 k f fd ps (spIterK C fl)) (room : RoomG k X.A) (hb : Binds X.K fd ps []) (he : PE X e te) : PI X tg e (iOwnK C fl te) := by
  refine ⟨fun pins s σ H R I h => ?_⟩
  refine thn (he.run pins s σ H _ I h) fun u s1 ⟨x, H1, I1, rx, a, dx, fs, p, od, kvs, ex, ea, el, ep, q⟩ => ?_
  subst ex
  obtain rfl : u = Value.ref a := rx
  obtain ⟨mA, O, _⟩ := ins_get I1.hok ea
  obtain ⟨ox, J, _⟩ := O.look
  obtain ⟨mF, hF⟩ := I1.fr
  obtain ⟨hs, hgd, hx, es, epo, vs, hdt, hsz, kv, hm⟩ := I1.frzK ep
  refine PySem.W.owit_iter hF I1.ok.mod.kin J D.here D.isf ?_
  have want : spIterK C fl s1.heap.objs.size [.ref a] H1 (fun v G => ∃ it, v = .ref it ∧ H1 it = none ∧ s1.heap.objs.size ≤ it ∧ G = upd H1 it (KeyO p it kvs.length epo)) (fun _ _ _ => False) :=
    ⟨a, dx, fs, p, od, kvs, rfl, ea, el, ep, fun it es' ep' ed n le => by
      rw [hdt] at ed
      cases ed
      exact ⟨it, rfl, n, le, rfl⟩⟩
  have len : ([Value.ref a] : List Value).length = ps.length := F.count _ _ _ _ _ want
  refine wpAny_call (codeAny_mono (F.goes X.A X.stack s1 H1 ⟨[.ref a], []⟩ [.ref a] [.ref a] _ _ room I1.env0 (by simpa using hb s1 [.ref a] I1.kIn (by simpa using len)) (.cons rfl .nil) want) ?_)
  intro res z hz
  match res, hz with
  | .error e, hz => exact pass0 pins σ H1 s1 e z I1 hz
  | .ok (.ret u), hz =>
    obtain ⟨v, H2, I2, rv, it, rfl, nn, le, rfl⟩ := I1.after hz
    obtain rfl : u = Value.ref it := rv
    have eo : z.heap.get? it = some (keyO p kvs.length epo) := (I2.hok it _ upd_same).1
    refine wpAny_specialOf (T := "dict_keyiterator") (name := Str.ofString "__next__") ⟨_, eo, rfl⟩ PySem.F.slot_dict_keyiterator_next.lookup ?_
    have dr : ItX.dropH (upd H1 it (KeyO p it kvs.length epo)) it = H1 := ItX.dropH_upd nn
    have I3 := ItX.inv_drop I2 upd_same
    rw [dr] at I3
    refine ⟨it, [it], _, Itk p od kvs, H1, rfl, I3, turn_keys it hdt, ⟨_, eo, rfl, rfl⟩, fun b hb => ?_, q⟩
    have e : b = it := by simpa using hb
    rw [e]
    have fp := ItX.inv_fp I2 upd_same (Nat.le_trans I1.sz le)
    rw [dr] at fp
    exact fp
end
end G9

/-! x = [.. for k in b for y in ..], b an own object over its dict's keys, the second walk over a tuple. -/
namespace G9
open PySem PySem.Spec PyProof.Rows L2
section
variable {K : PySem.W.Frag}
/-- a walk of a comprehension from any heap on -/
theorem lc_at {J : It} {n : Nat} {Gd : Hp → Prop} {Y : Nat → Hp → V → Hp → Prop} (w : Walk J n Gd Y) {g : TG} {t : TT} {te : TE} {us : List Nat} {τ : L2.St} {Hs : Hp} {D : Addr} {End : Hp → Prop} (P : Nat → Hp → Prop) (p0 : P 0 Hs) (stay : ∀ i G, i ≤ n → P i G → Gd G)
    (turn : ∀ i x G G', i < n → P i G → Y i G x G' → g x (wipe τ us) G' fun σ2 G2 => wipe σ2 us = wipe τ us ∧ t σ2 G2 fun b G3 => if b = true then te σ2 G3 fun y G4 => ∃ acc, G4 D = some (.lst acc) ∧ acc.length < sizeLine ∧ P (i + 1) (upd G4 D (.lst (acc ++ [y]))) else P (i + 1) G3)
    (fin : ∀ G, P n G → End G) : ∃ W : Nat → Nat → Hp → Prop, (∃ m, W 0 m Hs) ∧ ∀ i m G, W i m G →
      (J.stop i G ∧ End G) ∨ (J.go i G ∧ ∃ Nx : Hp → Prop, (∀ G', Nx G' → ∃ m', m' < m ∧ W (i + 1) m' G') ∧ ∀ x G', J.yld i G x G' → g x (wipe τ us) G' fun σ2 G2 => wipe σ2 us = wipe τ us ∧ t σ2 G2 fun b G3 =>
        if b = true then te σ2 G3 fun y G4 => ∃ acc, G4 D = some (.lst acc) ∧ acc.length < sizeLine ∧ Nx (upd G4 D (.lst (acc ++ [y]))) else Nx G3) := by
  refine ⟨fun i m G => m = n - i ∧ i ≤ n ∧ P i G, ⟨n, by omega, by omega, p0⟩, fun i m G h => ?_⟩
  obtain ⟨rfl, hi, p⟩ := h
  have gd := stay i G hi p
  rcases Nat.lt_or_ge i n with lt | ge
  · exact Or.inr ⟨w.goes i G lt gd, P (i + 1), fun G' p' => ⟨_, Nat.sub_lt_sub_left lt (Nat.lt_succ_self i), rfl, lt, p'⟩, fun x G' y => turn i x G G' lt p (w.yields i G x G' lt gd y)⟩
  · obtain rfl : i = n := Nat.le_antisymm hi ge
    exact Or.inl ⟨w.stops G gd, fin G p⟩
/-- a list of all items of rows -/
def rowsTo (row : Key → List V) (kvs : List (Key × V)) : List V := (kvs.map fun p => row p.1).flatten
theorem rowsTo_snoc {row : Key → List V} {kvs : List (Key × V)} {i : Nat} {k : Key} {v : V} (h : kvs[i]? = some (k, v)) : rowsTo row (kvs.take (i + 1)) = rowsTo row (kvs.take i) ++ row k := by
  unfold rowsTo
  rw [List.take_add_one, h]
  simp
theorem rowsTo_len {row : Key → List V} : ∀ {kvs : List (Key × V)}, (∀ p ∈ kvs, (row p.1).length ≤ 1000) → (rowsTo row kvs).length ≤ kvs.length * 1000
  | [], _ => Nat.le_refl _
  | p :: r, h => by
    have h1 := h p List.mem_cons_self
    have h2 := rowsTo_len (kvs := r) fun q hq => h q (List.mem_cons_of_mem _ hq)
    show (row p.1 ++ rowsTo row r).length ≤ _
    rw [List.length_append, List.length_cons]
    omega
variable {C : Addr} {fl : Str} {ti tl te : TE} {i j : Nat} {Q : VK} {σ : L2.St} {H : Hp} {d a dx : Addr} {fs : List (Str × V)} {kvs : List (Key × V)} {row : Key → List V}
theorem l_lc2K (hi : ∀ (od : Obj) (R : VK), R (.ref a) (locked H d od kvs) → ti σ (locked H d od kvs) R) (ha : H a = some (.ins C dx fs)) (hl : fs.lookup fl = some (.ref d)) (hd : H d = some (.dK kvs)) (ij : i ≠ j)
    (short : kvs.length ≤ 1000) (rs : ∀ p ∈ kvs, (row p.1).length ≤ 1000)
    (inner : ∀ (od : Obj) k, k ∈ kvs.map (·.1) → ∀ G, Same (locked H d od kvs) G → ∀ R : VK, (∀ t G', Same G G' → G' t = some (.tup (row k)) → R (.ref t) G') → tl ((wipe σ [i, j]).set i (some (kV k))) G R)
    (val : ∀ (y : V) (τ : L2.St) (G : Hp) (R : VK), τ.length = σ.length → R y G → te (τ.set j (some y)) G R)
    (fin : ∀ D G, H D = none → Same H G → G D = some (.lst (rowsTo row kvs)) → Q (.ref D) G) :
    tLockE (tLc2 (iOwnK C fl ti) (gName i) tYes (iTup K tl) (gName j) tYes te [i, j] [j]) σ H Q := by
  have na : a ≠ d := fun z => by
    rw [z, hd] at ha
    cases ha
  refine ⟨d, .dK kvs, hd, trivial, fun od => ?_⟩
  refine (hi od _ ⟨a, dx, fs, d, od, kvs, rfl, ?_, hl, upd_same, ?_⟩)
  · show upd H d _ a = _
    rw [upd_ne na]
    exact ha
  intro D hD
  have nD : D ≠ d := fun z => by
    rw [z, locked, upd_same] at hD
    cases hD
  have hD0 : H D = none := by
    rw [locked, upd_ne nD] at hD
    exact hD
  have wk : Walk (Itk d od kvs) kvs.length (fun G => G d = some (.frz od (.dK kvs))) (fun i G x G' => G' = G ∧ ∃ k v, kvs[i]? = some (k, v) ∧ x = kV k) := walk_keys
  let P : Nat → Hp → Prop := fun n G => Same (locked H d od kvs) G ∧ G D = some (.lst (rowsTo row (kvs.take n)))
  refine ⟨fun n q G => q = kvs.length - n ∧ n ≤ kvs.length ∧ P n G, ⟨kvs.length, by omega, by omega, Same.upd0 hD, by rw [upd_same]; rfl⟩, fun n q G h => ?_⟩
  obtain ⟨rfl, hn, p⟩ := h
  have gd : G d = some (.frz od (.dK kvs)) := at_lock p.1
  rcases Nat.lt_or_ge n kvs.length with lt | ge
  · refine Or.inr ⟨wk.goes n G lt gd, P (n + 1), fun G' p' => ⟨_, Nat.sub_lt_sub_left lt (Nat.lt_succ_self n), rfl, lt, p'⟩, fun x G' y => ?_⟩
    obtain ⟨rfl, k, v, hk, rfl⟩ := wk.yields n G x G' lt gd y
    have mk : k ∈ kvs.map (·.1) := List.mem_map_of_mem (List.mem_of_getElem? hk)
    refine s_name ⟨?_, ?_⟩
    · show ((((σ.set j none).set i none).set i (some (kV k))).set j none).set i none = (σ.set j none).set i none
      rw [List.set_set, List.set_comm _ _ ij, List.set_set, List.set_set]
    refine s_yes (i_t rfl ?_)
    refine inner od k mk _ p.1 _ fun u G2 s2 hu => ?_
    refine ⟨u, rfl, ⟨_, tup_at hu⟩, ?_⟩
    have e2 : G2 D = some (.lst (rowsTo row (kvs.take n) ++ (row k).take 0)) := by
      rw [List.take_zero, List.append_nil]
      exact s2 _ _ p.2
    refine lc_at walk_tup (fun l G => Same (locked H d od kvs) G ∧ G u = some (.tup (row k)) ∧ G D = some (.lst (rowsTo row (kvs.take n) ++ (row k).take l))) ⟨p.1.trans s2, hu, e2⟩ (fun _ _ _ z => tup_at z.2.1) (fun l x G3 G4 hl z y => ?_) (fun G3 z => ?_)
    · obtain ⟨rfl, hx⟩ := y
      refine s_name ⟨?_, ?_⟩
      · show (((List.set _ j none).set j (some x)).set j none) = List.set _ j none
        rw [List.set_set, List.set_set]
      refine s_yes (i_t rfl ?_)
      refine val x _ _ _ ?_ ⟨_, z.2.2, ?_, Same.setNew z.1 hD, ?_, ?_⟩
      · rw [wipe_length, List.length_set, wipe_length]
      · have l1 : (rowsTo row (kvs.take n)).length ≤ (kvs.take n).length * 1000 := rowsTo_len fun pr hp => rs pr (List.mem_of_mem_take hp)
        have l2 : (row k).length ≤ 1000 := rs (k, v) (List.mem_of_getElem? hk)
        rw [List.length_take] at l1
        rw [List.length_append, List.length_take, sizeLine_eq]
        have l3 : min n kvs.length ≤ 1000 := by omega
        have l4 : min n kvs.length * 1000 ≤ 1000000 := by omega
        omega
      · have nu : u ≠ D := ne_of z.2.1 z.2.2 fun q => by cases q
        rw [upd_ne nu]
        exact z.2.1
      · rw [upd_same, take_succ_of hx, List.append_assoc]
    · refine ⟨z.1, ?_⟩
      have e3 := z.2.2
      rw [List.take_length] at e3
      rw [rowsTo_snoc hk]
      exact e3
  · obtain rfl : n = kvs.length := Nat.le_antisymm hn ge
    refine Or.inl ⟨wk.stops G gd, ?_⟩
    have e4 := p.2
    rw [List.take_length] at e4
    exact ⟨gd, fin D _ hD0 (unlock hd p.1) (by rw [upd_ne nD]; exact e4)⟩
end
end G9

/-! Comprehensions over lists and tuples of which each item is told by its place. -/
namespace G9
open PySem PySem.Spec PyProof.Rows L2
def pick (ws : List V) (kp : List Bool) : List V := ((ws.zip kp).filter (·.2)).map (·.1)
theorem pick_snoc {ws : List V} {kp : List Bool} {n : Nat} {v : V} {b : Bool} (h1 : ws[n]? = some v) (h2 : kp[n]? = some b) : pick (ws.take (n + 1)) (kp.take (n + 1)) = pick (ws.take n) (kp.take n) ++ (if b = true then [v] else []) := by
  have hz : (ws.zip kp)[n]? = some (v, b) := by rw [List.getElem?_zip_eq_some]; exact ⟨h1, h2⟩
  unfold pick
  have tz : ∀ m, (ws.take m).zip (kp.take m) = (ws.zip kp).take m := fun m => (List.take_zipWith ..).symm
  rw [tz, tz, List.take_add_one, hz]
  show (((ws.zip kp).take n ++ [(v, b)]).filter _).map _ = _
  rw [List.filter_append, List.map_append]
  cases b <;> rfl
theorem pick_all {kp : List Bool} : ∀ {ws : List V}, kp.length = ws.length → (∀ b ∈ kp, b = true) → pick ws kp = ws := by
  induction kp with
  | nil =>
    intro ws l _
    have : ws = [] := List.length_eq_zero_iff.mp l.symm
    rw [this]
    rfl
  | cons b r ih =>
    intro ws l h
    match ws, l with
    | x :: ws, l =>
      have hb := h b List.mem_cons_self
      subst hb
      have e := ih (ws := ws) (by simpa using l) fun c hc => h c (List.mem_cons_of_mem _ hc)
      show x :: pick ws r = x :: ws
      rw [e]
theorem pick_none {kp : List Bool} : ∀ {ws : List V}, kp.length = ws.length → ((pick ws kp).length = 0 ↔ ∀ b ∈ kp, b = false) := by
  induction kp with
  | nil =>
    intro ws l
    have : ws = [] := List.length_eq_zero_iff.mp l.symm
    rw [this]
    exact ⟨fun _ _ h => (nomatch h), fun _ => rfl⟩
  | cons b r ih =>
    intro ws l
    match ws, l with
    | x :: ws, l =>
      have e := ih (ws := ws) (by simpa using l)
      cases b with
      | true =>
        show (x :: pick ws r).length = 0 ↔ _
        exact ⟨fun z => (by cases z), fun z => (by have := z true List.mem_cons_self; cases this)⟩
      | false =>
        show (pick ws r).length = 0 ↔ _
        rw [e]
        exact ⟨fun z c hc => (List.mem_cons.mp hc).elim (fun q => q) (z c), fun z c hc => z c (List.mem_cons_of_mem _ hc)⟩
section
variable {K : PySem.W.Frag} {σ : L2.St} {H : Hp} {t : TT} {te : TE} {Q : VK} {j : Nat} {p : Addr} {xs : List V}
theorem wlc_ix {J : It} {Gd : Hp → Prop} (w : Walk J xs.length Gd (YAt xs)) (stay : ∀ G, Same H G → Gd G) (kp : List Bool) (ws : List V) (lk : kp.length = xs.length) (lw : ws.length = xs.length) (short : xs.length ≤ 100000)
    (test : ∀ (n : Nat) x b, xs[n]? = some x → kp[n]? = some b → ∀ G, Same H G → ToB t ((wipe σ [j]).set j (some x)) G b) (val : ∀ (n : Nat) x v, xs[n]? = some x → kp[n]? = some true → ws[n]? = some v → ∀ G, Same H G → ToV te ((wipe σ [j]).set j (some x)) G v)
    (fin : ∀ D G, H D = none → Same H G → G D = some (.lst (pick ws kp)) → Q (.ref D) G) : WLc J (gName j) t te [j] σ Q H := by
  intro D hD
  refine lc_it w (fun n G => Same H G ∧ G D = some (.lst (pick (ws.take n) (kp.take n)))) ⟨Same.upd0 hD, upd_same⟩ (fun n G _ z => stay G z.1) ?_ (fun G z => ?_)
  · intro n x G G' hn z y
    obtain ⟨rfl, hx⟩ := y
    have hb : kp[n]? = some (kp[n]'(by omega)) := List.getElem?_eq_getElem _
    have hv : ws[n]? = some (ws[n]'(by omega)) := List.getElem?_eq_getElem _
    have sn := pick_snoc hv hb
    refine s_name ⟨?_, ?_⟩
    · show (((σ.set j none).set j (some x)).set j none) = σ.set j none
      rw [List.set_set, List.set_set]
    refine test n x _ hx hb _ z.1 _ fun G1 e1 => ?_
    generalize kp[n]'(by omega) = b at hb sn
    cases b with
    | false =>
      refine i_f rfl ⟨z.1.trans e1, ?_⟩
      rw [sn, if_neg Bool.false_ne_true, List.append_nil]
      exact e1 _ _ z.2
    | true =>
      refine i_t rfl (val n x _ hx hb hv _ (z.1.trans e1) _ fun G2 e2 => ⟨_, e2 _ _ (e1 _ _ z.2), ?_, Same.setNew ((z.1.trans e1).trans e2) hD, ?_⟩)
      · have l1 : (pick (ws.take n) (kp.take n)).length ≤ ((ws.take n).zip (kp.take n)).length := by
          unfold pick
          rw [List.length_map]
          exact List.length_filter_le _ _
        have l2 : ((ws.take n).zip (kp.take n)).length ≤ xs.length := by
          rw [List.length_zip, List.length_take, List.length_take]
          omega
        rw [sizeLine_eq]
        omega
      · rw [upd_same, sn, if_pos rfl]
  · have e := z.2
    rw [← lw, List.take_length, lw, ← lk, List.take_length] at e
    exact fin D G hD z.1 e
theorem l_lcTx (h : SqT K H p xs) (kp : List Bool) (ws : List V) (lk : kp.length = xs.length) (lw : ws.length = xs.length) (short : xs.length ≤ 100000)
    (test : ∀ (n : Nat) x b, xs[n]? = some x → kp[n]? = some b → ∀ G, Same H G → ToB t ((wipe σ [j]).set j (some x)) G b) (val : ∀ (n : Nat) x v, xs[n]? = some x → kp[n]? = some true → ws[n]? = some v → ∀ G, Same H G → ToV te ((wipe σ [j]).set j (some x)) G v)
    (fin : ∀ D G, H D = none → Same H G → G D = some (.lst (pick ws kp)) → Q (.ref D) G) : TupLc K (gName j) t te [j] σ Q (.ref p) H := ⟨p, rfl, ⟨xs, h⟩, wlc_ix walk_tup (fun _ s => sqt_same s h) kp ws lk lw short test val fin⟩
theorem l_lcLx (h : SqL K H p xs) (kp : List Bool) (ws : List V) (lk : kp.length = xs.length) (lw : ws.length = xs.length) (short : xs.length ≤ 100000)
    (test : ∀ (n : Nat) x b, xs[n]? = some x → kp[n]? = some b → ∀ G, Same H G → ToB t ((wipe σ [j]).set j (some x)) G b) (val : ∀ (n : Nat) x v, xs[n]? = some x → kp[n]? = some true → ws[n]? = some v → ∀ G, Same H G → ToV te ((wipe σ [j]).set j (some x)) G v)
    (fin : ∀ D G, H D = none → Same H G → G D = some (.lst (pick ws kp)) → Q (.ref D) G) : LstLc K (gName j) t te [j] σ Q (.ref p) H := ⟨p, rfl, ⟨xs, h⟩, wlc_ix walk_list (fun _ s => s.seq h) kp ws lk lw short test val fin⟩
/-- without a test: a value of each item -/
theorem l_lcTv (h : SqT K H p xs) (ws : List V) (lw : ws.length = xs.length) (short : xs.length ≤ 100000) (val : ∀ (n : Nat) x v, xs[n]? = some x → ws[n]? = some v → ∀ G, Same H G → ToV te ((wipe σ [j]).set j (some x)) G v)
    (fin : ∀ D G, H D = none → Same H G → G D = some (.lst ws) → Q (.ref D) G) : TupLc K (gName j) tYes te [j] σ Q (.ref p) H :=
  l_lcTx h (List.replicate xs.length true) ws (by rw [List.length_replicate]) lw short (fun n x b _ hb G s R r => by
    have : b = true := (List.mem_replicate.mp (List.mem_of_getElem? hb)).2
    subst this
    exact s_yes (r G (Same.refl G))) (fun n x v hx _ hv => val n x v hx hv) fun D G n s e => fin D G n s (by rw [e, pick_all (by rw [List.length_replicate, lw]) fun b hb => (List.mem_replicate.mp hb).2])
end
end G9

/-! Readings: a loop over a locked dict that writes elsewhere; l.extend(m); tuples joined and cut; l or m. -/
namespace G9
open PySem PySem.Spec PyProof.Rows L2
section
variable {K : PySem.W.Frag} {σ : L2.St} {H : Hp} {Q : VK} {g : TG}
theorem l_forKw {D : Ends} {tbd : TS} {d : Addr} {kvs : List (Key × V)} {ti : TE} (hi : ∀ (od : Obj) (R : VK), R (.ref d) (locked H d od kvs) → ti σ (locked H d od kvs) R) (hd : H d = some (.dK kvs)) (Pv : Obj → Nat → L2.St → Hp → Prop) (p0 : ∀ od, Pv od 0 σ (locked H d od kvs))
    (stay : ∀ od i τ G, Pv od i τ G → G d = some (.frz od (.dK kvs)))
    (turn : ∀ (od : Obj) (i : Nat) (k : Key) (v : V) (τ : L2.St) (G : Hp), kvs[i]? = some (k, v) → Pv od i τ G → ∀ R : L2.St → Hp → Prop, (∀ τ' G', Pv od (i + 1) τ' G' → R τ' G') →
      g (kV k) τ G fun σ2 H2 => tbd ⟨R, fun v H' => H' d = some (.frz od (.dK kvs)) ∧ D.rt v (upd H' d (.dK kvs)), fun σ' H' => H' d = some (.frz od (.dK kvs)) ∧ D.nx σ' (upd H' d (.dK kvs)), R⟩ σ2 H2)
    (done : ∀ od τ G, Pv od kvs.length τ G → D.nx τ (upd G d (.dK kvs))) : tLock (tFor (iKeys ti) g tbd) D σ H := by
  refine ⟨d, .dK kvs, hd, trivial, fun od => hi od _ ⟨d, od, rfl, Or.inl ⟨kvs, upd_same, ?_⟩⟩⟩
  refine for_it walk_keys (Pv od) (p0 od) (fun i τ G _ p => stay od i τ G p) (fun i x τ G G' hi p y => ?_) (fun τ G p => ⟨stay od _ τ G p, done od τ G p⟩)
  obtain ⟨rfl, k, v, hk, rfl⟩ := y
  exact turn od i k v τ _ hk p _ fun τ' G' a => a
theorem l_ext {l b : Addr} {xs zs : List V} (hl : H l = some (.lst xs)) (hb : H b = some (.lst zs)) (sz : xs.length + zs.length ≤ sizeLine) (q : Q .non (upd H l (.lst (xs ++ zs)))) : rExtend (.ref l) [.ref b] H Q := ⟨l, b, xs, zs, rfl, rfl, hl, hb, sz, q⟩
/-- tuple + tuple, any -/
theorem l_catA {a b : Addr} {xs ys : List V} (ha : H a = some (.tup xs)) (hb : H b = some (.tup ys)) (sz : xs.length + ys.length ≤ sizeLine) (q : ∀ p G, Same H G → G p = some (.tup (xs ++ ys)) → Q (.ref p) G) : rCatA K (.ref a) (.ref b) H Q := by
  refine ⟨a, b, xs, ys, rfl, rfl, tup_at ha, tup_at hb, sz, fun e => q b H (Same.refl H) (by rw [e]; exact hb), fun _ e => q a H (Same.refl H) (by rw [e, List.append_nil]; exact ha), fun _ _ p n => q p _ (Same.upd0 n) upd_same⟩
/-- a slice of a tuple, any -/
theorem l_slA {a : Addr} {xs : List V} {lo hi : Option Int} (ha : H a = some (.tup xs)) (q : ∀ p G, Same H G → G p = some (.tup (cutV xs lo hi)) → Q (.ref p) G) : rSlA K (.ref a) lo hi H Q := by
  refine ⟨a, xs, rfl, tup_at ha, fun e => q a H (Same.refl H) ?_, fun _ p n => q p _ (Same.upd0 n) upd_same⟩
  unfold cutV
  rw [e.1, e.2, List.drop_zero, Nat.sub_zero, List.take_length]
  exact ha
theorem s_orT {ta tb : TE} (q : ta σ H fun x H1 => ∃ k, TruV K x H1 k ∧ if k = true then Q x H1 else tb σ H1 Q) : tOrT K ta tb σ H Q := q
theorem cut_take {xs : List V} {n : Nat} (h : n ≤ xs.length) : cutV xs none (some (n : Int)) = xs.take n := by
  unfold cutV
  rw [HT.sIx_none, HT.sIx_nat, List.drop_zero, Nat.sub_zero, Nat.min_eq_left h]
theorem cut_drop {xs : List V} {n : Nat} : cutV xs (some (n : Int)) none = xs.drop n := by
  unfold cutV
  rw [HT.sIx_none, HT.sIx_nat]
  rcases Nat.le_total n xs.length with h | h
  · rw [Nat.min_eq_left h, List.take_of_length_le (by rw [List.length_drop]; omega)]
  · rw [Nat.min_eq_right h, Nat.sub_self, List.take_zero, List.drop_eq_nil_of_le h]
end
end G9

/-! list(enumerate(t)), t a tuple. -/
namespace PySem
open PySem.W
section
variable {prog : Program} {w : World} {A : Around} {E : Value → Shared → Prop} {s : Shared}
theorem g9_enum_held {e it t T : Addr} {n : Nat} {ws : Array Value} {x old : Value} {b0 : Bool} {oT : Obj} {Q : Option Value → Shared → Prop} (he : IsEnumHeld s.heap e it n old T b0) (hT : s.heap.get? T = some oT) (Te : T ≠ e) (Ti : T ≠ it)
    (hit : s.heap.IsTupleIter it t n) (ht : s.heap.IsTuple t ws) (hx : ws[n]? = some x) (ne : e ≠ it)
    (k : ∀ h', IsEnumHeld h' e it ((n : Int) + 1) old T true → h'.IsTupleIter it t (n + 1) → h'.get? s.heap.objs.size = some { cls := .type "tuple", data := .seq #[.int n s.toks, x] } → h'.objs.size = s.heap.objs.size + 1 →
      (∀ c o, c ≠ e → c ≠ it → s.heap.get? c = some o → h'.get? c = some o) → Q (some (.ref s.heap.objs.size)) { s with heap := h', toks := s.toks + 1 }) : wpAny (model prog w) A (pyNext (.ref e)) Q E s := by
  have ty : s.TypeIs (.ref e) "enumerate" := ⟨_, he, rfl⟩
  unfold pyNext
  refine wpAny_bind (wpAny_attempt (wpAny_callSpecial?_slot (name := Str.ofString "__next__") ty F.slot_enumerate_next (wpAny_call_entry F.slot_enumerate_next ty F.entry_enumerate_next ?_ (F.args_enumerate_next_1 _))))
  obtain ⟨hp, gs, dr, tk, os⟩ := s
  show wpAny _ _ (field (.ref e) 2 >>= _) _ _ ⟨hp, gs, dr, tk, os⟩
  refine wpAny_bind (wpAny_field he rfl (x := .ref it) rfl ?_)
  refine wpAny_bind (wpAny_nextOf_tuple_item hit ht hx fun p1 i1 b1 => ?_)
  have c1 : ∀ c, c ≠ it → p1.get? c = hp.get? c := fun c hc => b1.2 c hc
  have e1 : IsEnumHeld p1 e it n old T b0 := (c1 e ne).trans he
  show wpAny _ _ (field (.ref e) 3 >>= _) _ _ ⟨p1, gs, dr, tk, os⟩
  refine wpAny_bind (wpAny_field e1 rfl (x := rawInt n) rfl ?_)
  show wpAny _ _ (field (.ref e) 4 >>= _) _ _ ⟨p1, gs, dr, tk, os⟩
  refine wpAny_bind (wpAny_field e1 rfl (x := .none) rfl ?_)
  show wpAny _ _ (mkInt n >>= _) _ _ ⟨p1, gs, dr, tk, os⟩
  refine wpAny_bind (wpAny_mkInt ?_)
  show wpAny _ _ (setField (.ref e) 3 (rawInt ((n : Int) + 1)) >>= _) _ _ ⟨p1, gs, dr, tk + 1, os⟩
  refine wpAny_bind (wpAny_setField_rec e1 (by simp) fun p2 e2 b2 => ?_)
  have e2' : IsEnumHeld p2 e it ((n : Int) + 1) old T b0 := e2
  show wpAny _ _ (setField (.ref e) 4 .none >>= _) _ _ ⟨p2, gs, dr, tk + 1, os⟩
  refine wpAny_bind (wpAny_setField_rec e2' (by simp) fun p3 e3 b3 => ?_)
  have e3' : IsEnumHeld p3 e it ((n : Int) + 1) old T b0 := e3
  show wpAny _ _ (newTuple [.int n tk, x] >>= _) _ _ ⟨p3, gs, dr, tk + 1, os⟩
  refine wpAny_bind (wpAny_newTuple ?_)
  have sz : p3.objs.size = hp.objs.size := by
    have z3 : p3.objs.size = p2.objs.size := b3.1
    have z2 : p2.objs.size = p1.objs.size := b2.1
    have z1 : p1.objs.size = hp.objs.size := b1.1
    omega
  have kp : ∀ c o, c ≠ e → c ≠ it → hp.get? c = some o → p3.get? c = some o := fun c o h1 h2 ho => by
    have z3 : p3.get? c = p2.get? c := b3.2 c h1
    have z2 : p2.get? c = p1.get? c := b2.2 c h1
    rw [z3, z2, c1 c h2]
    exact ho
  have it3 : p3.IsTupleIter it t (n + 1) := i1.at fun o ho => by
    have z3 : p3.get? it = p2.get? it := b3.2 it (Ne.symm ne)
    have z2 : p2.get? it = p1.get? it := b2.2 it (Ne.symm ne)
    rw [z3, z2]
    exact ho
  have el : e < hp.objs.size := Heap.lt_size he
  show wpAny _ _ (Builtin.SmallTypes.ownedTupleIsFree (.ref e) >>= _) _ _ ⟨p3.push { cls := .type "tuple", data := .seq #[.int n tk, x] }, gs, dr, tk + 1, os⟩
  rw [sz]
  have e4 : IsEnumHeld (p3.push { cls := .type "tuple", data := .seq #[.int n tk, x] }) e it ((n : Int) + 1) old T b0 := Heap.get?_push_of_some _ e3'
  refine wpAny_bind (wpAny_tupleHeld_enum (s := ⟨p3.push { cls := .type "tuple", data := .seq #[.int n tk, x] }, gs, dr, tk + 1, os⟩) e4 (Heap.get?_push_of_some _ (kp T oT Te Ti hT)) fun p5 e5 b5 => ?_)
  have n5 : ∀ c, c ≠ e → p5.get? c = (p3.push { cls := .type "tuple", data := .seq #[.int n tk, x] }).get? c := fun c hc => b5.2 c hc
  have tp : (p3.push { cls := .type "tuple", data := .seq #[.int n tk, x] }).get? hp.objs.size = some { cls := .type "tuple", data := .seq #[.int n tk, x] } := by
    have z := Heap.get?_push_size p3 (o := { cls := .type "tuple", data := .seq #[.int n tk, x] }) rfl
    rw [sz] at z
    exact z
  simp only [Bool.false_eq_true, if_false]
  refine wpAny_pure ⟨_, rfl, wpAny_pure (k p5 e5 (it3.at fun o ho => (n5 it (Ne.symm ne)).trans (Heap.get?_push_of_some _ ho)) ((n5 _ (Nat.ne_of_gt el)).trans tp) ?_ fun c o h1 h2 ho => (n5 c h1).trans (Heap.get?_push_of_some _ (kp c o h1 h2 ho)))⟩
  have z5 : p5.objs.size = (p3.push { cls := .type "tuple", data := .seq #[.int n tk, x] }).objs.size := b5.1
  show p5.objs.size = hp.objs.size + 1
  rw [z5, Heap.size_push, sz]
end
end PySem
namespace G9
open PySem PySem.Spec PyProof.Rows L2
open PySem.W
/-- an enumerate object before its i-th item: its last tuple kept elsewhere, or none made yet -/
def EnSt (h : Heap) (e it t : Addr) (i : Nat) : Prop := h.IsTupleIter it t i ∧ ((∃ old, IsEnum h e it (i : Nat) old) ∨ ∃ T b old o, IsEnumHeld h e it (i : Nat) old T b ∧ h.get? T = some o ∧ T ≠ e ∧ T ≠ it)
theorem EnSt.keep {h h' : Heap} {e it t : Addr} {i : Nat} (st : EnSt h e it t i) (k : ∀ c o, h.get? c = some o → ∃ o', h'.get? c = some o') (ke : ∀ o, h.get? e = some o → h'.get? e = some o) (ki : ∀ o, h.get? it = some o → h'.get? it = some o) : EnSt h' e it t i := by
  obtain ⟨a, b⟩ := st
  refine ⟨a.at fun o ho => ki o ho, ?_⟩
  rcases b with ⟨old, h1⟩ | ⟨T, b, old, o, h1, h2, h3, h4⟩
  · exact Or.inl ⟨old, ke _ h1⟩
  · obtain ⟨o', h5⟩ := k T o h2
    exact Or.inr ⟨T, b, old, o', ke _ h1, h5, h3, h4⟩
section
variable {prog : Program} {w : World} {A : Around} {E : Value → Shared → Prop} {s : Shared} {e it t : Addr} {i : Nat} {ws : Array Value} {Q : Option Value → Shared → Prop}
theorem en_item {x : Value} (hd : A.handled = none) (st : EnSt s.heap e it t i) (ht : s.heap.IsTuple t ws) (hx : ws[i]? = some x) (ne : e ≠ it) (te : t ≠ e) (ti : t ≠ it)
    (k : ∀ h' tk tk', EnSt h' e it t (i + 1) → h'.get? s.heap.objs.size = some { cls := .type "tuple", data := .seq #[.int i tk, x] } → (∀ c o, c ≠ e → c ≠ it → s.heap.get? c = some o → h'.get? c = some o) → Q (some (.ref s.heap.objs.size)) { s with heap := h', toks := tk' }) :
    wpAny (model prog w) A (pyNext (.ref e)) Q E s := by
  obtain ⟨hit, st⟩ := st
  have el : e < s.heap.objs.size := by
    rcases st with ⟨_, h⟩ | ⟨_, _, _, _, h, _⟩
    · exact Heap.lt_size h
    · exact Heap.lt_size h
  have il : it < s.heap.objs.size := by
    obtain ⟨_, q, _⟩ := hit
    exact Heap.lt_size q
  have e1 : ((i + 1 : Nat) : Int) = (i : Int) + 1 := by omega
  rcases st with ⟨old, he⟩ | ⟨T, b, old, o, he, hT, Te, Ti⟩
  · have D := Draws.tuple (prog := prog) (w := w) (A := A.in1) hd it t ti ws
    have lt : i < ws.size := (Array.getElem?_eq_some_iff.mp hx).1
    refine wpAny_pyNext_enum_itemD D he ⟨hit, ht⟩ lt ne (by simp [ne, Ne.symm te]) fun y h' tk hy ho hst hTup hsz hk => ?_
    have hy' : ws[i]? = some y := hy
    rw [hx] at hy'
    obtain rfl := Option.some.inj hy'
    refine k h' tk (tk + 1) ⟨hst.1, Or.inr ⟨s.heap.objs.size, false, x, _, ?_, hTup, Nat.ne_of_gt el, Nat.ne_of_gt il⟩⟩ hTup hk
    rw [e1]
    exact ho
  · refine g9_enum_held he hT Te Ti hit ht hx ne fun h' a1 a2 a3 a4 a5 => k h' s.toks (s.toks + 1) ⟨a2, Or.inr ⟨T, true, old, o, ?_, a5 T o Te Ti hT, Te, Ti⟩⟩ a3 a5
    rw [e1]
    exact a1
theorem en_done (hd : A.handled = none) (st : EnSt s.heap e it t i) (ht : s.heap.IsTuple t ws) (hx : ws[i]? = none)
    (k : ∀ h', (∀ c o, c ≠ it → s.heap.get? c = some o → h'.get? c = some o) → Q none { s with heap := h' }) : wpAny (model prog w) A (pyNext (.ref e)) Q E s := by
  obtain ⟨hit, st⟩ := st
  have ty : s.TypeIs (.ref e) "enumerate" := by
    rcases st with ⟨_, h⟩ | ⟨_, _, _, _, h, _⟩
    · exact ⟨_, h, rfl⟩
    · exact ⟨_, h, rfl⟩
  unfold pyNext
  refine wpAny_bind (wpAny_attempt (wpAny_callSpecial?_slot (name := Str.ofString "__next__") ty F.slot_enumerate_next (wpAny_call_entry F.slot_enumerate_next ty F.entry_enumerate_next ?_ (F.args_enumerate_next_1 _))))
  show wpAny _ _ (field (.ref e) 2 >>= _) _ _ _
  have rest : wpAny (model prog w) A.in1 (Builtin.SmallTypes.nextOf (.ref it)) (fun _ _ => False) (fun x s' => ∃ h', s' = { s with heap := h' } ∧ (∀ c o, c ≠ it → s.heap.get? c = some o → h'.get? c = some o) ∧ ∃ a o, x = .ref a ∧ h'.get? a = some o ∧ o.cls = .type "StopIteration") s :=
    wpAny_nextOf_tuple_end hd hit ht hx fun h' a k2 ho => ⟨h', rfl, fun c o hc q => k2 c o hc q, a, ho.choose, rfl, ho.choose_spec.1, ho.choose_spec.2⟩
  rcases st with ⟨old, he⟩ | ⟨T, b, old, o, he, _⟩
  · refine wpAny_bind (wpAny_field he rfl (x := .ref it) rfl ?_)
    refine wpAny_bind (wpAny_mono rest (fun _ _ z => z.elim) fun x s' z => ?_)
    obtain ⟨h', rfl, k2, a, o, rfl, g1, g2⟩ := z
    refine wpAny_bind (wpAny_isInstance (T := "StopIteration") (b := true) ⟨o, g1, g2⟩ isSubtype_stop ?_)
    exact wpAny_pure (k h' k2)
  · refine wpAny_bind (wpAny_field he rfl (x := .ref it) rfl ?_)
    refine wpAny_bind (wpAny_mono rest (fun _ _ z => z.elim) fun x s' z => ?_)
    obtain ⟨h', rfl, k2, a, o, rfl, g1, g2⟩ := z
    refine wpAny_bind (wpAny_isInstance (T := "StopIteration") (b := true) ⟨o, g1, g2⟩ isSubtype_stop ?_)
    exact wpAny_pure (k h' k2)
end
/-- the pairs so far -/
def enPairs (xs : List V) (n : Nat) (H : Hp) (ts : List Addr) : Prop := ts.length = n ∧ ∀ (j : Nat) T, ts[j]? = some T → ∃ x, xs[j]? = some x ∧ H T = some (.tup [.int j, x])
section
variable {X : Cx} {pins : List (Addr × Obj)} {σ : L2.St} {A1 : Around} {e it t S : Addr} {xs : List V} {Rs : Result → Shared → Prop}
theorem en_loop (hd : A1.in1.handled = none) (ne : e ≠ it) (te : t ≠ e) (ti : t ≠ it) (Se : S ≠ e) (Si : S ≠ it) (lx : xs.length ≤ 100000) {H0 : Hp} (h0t : H0 t = some (.tup xs)) (h0S : H0 S = none)
    (done : ∀ ts H s, Inv X pins σ H s → H S = some (.lst (ts.map V.ref)) → enPairs xs xs.length H ts → (∀ b o, H0 b = some o → H b = some o) → Rs (.ok (.ret .none)) s) :
    ∀ (k i : Nat) (ts : List Addr) (H : Hp) (s : Shared), xs.length - i = k → i ≤ xs.length → Inv X pins σ H s → H S = some (.lst (ts.map V.ref)) → enPairs xs i H ts → (∀ b o, H0 b = some o → H b = some o) →
      EnSt s.heap e it t i → (∀ b ∈ [e, it], FpOk X pins H b) → codeAny (model X.prog X.w) A1 (.builtin "list.extend.loop" ⟨[.ref S, .ref e, .none], []⟩) Rs s := by
  intro k
  induction k with
  | zero =>
    intro i ts H s hk hi I hS hp keep st hf
    obtain rfl : i = xs.length := by omega
    refine codeAny_builtin PySem.F.entry_extend_loop ?_
    rw [Around.under_plainId PySem.F.plain_extend_loop _]
    show wpAny _ A1.in1 (pyNext (.ref e) >>= _) _ _ s
    obtain ⟨its, rv, p, hz⟩ := I.tuple (tup_at (keep _ _ h0t))
    have hl := rv.length
    refine wpAny_bind (en_done hd st p (by simp; omega) fun h' k2 => ?_)
    obtain ⟨f0, f1, f2, f3, f4, f5⟩ := hf it (by simp)
    exact wpAny_pure (done ts H _ (I.turned (t' := s.toks) (fun b o hb q => k2 b o hb q) f0 f1 f3 f4 f5) hS hp keep)
  | succ k ih =>
    intro i ts H s hk hi I hS hp keep st hf
    have lt : i < xs.length := by omega
    refine codeAny_builtin PySem.F.entry_extend_loop ?_
    rw [Around.under_plainId PySem.F.plain_extend_loop _]
    show wpAny _ A1.in1 (pyNext (.ref e) >>= _) _ _ s
    obtain ⟨its, rv, p, hz⟩ := I.tuple (tup_at (keep _ _ h0t))
    have hx : xs[i]? = some xs[i] := List.getElem?_eq_getElem lt
    obtain ⟨u, hu, ru⟩ := rv.get hx
    refine wpAny_bind (en_item (x := u) hd st p (by simpa using hu) ne te ti fun h' tk tk' st' hT hk2 => ?_)
    have new : ObjOk X.prog X.w (upd H s.heap.objs.size (.tup [.int (i : Nat), xs[i]])) h' s.heap.objs.size (.tup [.int (i : Nat), xs[i]]) :=
      ⟨by show 2 ≤ sizeLine; decide, [.int i tk, u], .cons ⟨_, rfl⟩ (.cons ru .nil), ⟨_, hT, rfl, _, rfl⟩⟩
    have I1 : Inv X pins σ (upd H s.heap.objs.size (.tup [.int (i : Nat), xs[i]])) { s with heap := h', toks := tk' } :=
      I.turnedNew (ch := [e, it]) (fun b ob hb q => hk2 b ob (fun z => hb (by simp [z])) (fun z => hb (by simp [z])) q) hf (Nat.le_refl _) new
    have fr : H s.heap.objs.size = none := I.hok.fresh (Nat.le_refl _)
    have nS : S ≠ s.heap.objs.size := ne_of_none hS fr
    have hS1 : upd H s.heap.objs.size (.tup [.int (i : Nat), xs[i]]) S = some (.lst (ts.map V.ref)) := by rw [upd_ne nS]; exact hS
    obtain ⟨z, its1, n1, r1, hl1, g1⟩ := I1.lstM hS1
    have lts : ts.length = i := hp.1
    have lits : its1.length = i := by rw [← hl1, List.length_map, lts]
    show wpAny _ A1.in1 (updateSeq S (·.push (.ref s.heap.objs.size)) >>= _) _ _ _
    have I2 := I1.lset (f := (·.push (Value.ref s.heap.objs.size))) (its' := its1 ++ [.ref s.heap.objs.size]) (ys := (ts ++ [s.heap.objs.size]).map V.ref) (t' := tk') hS1 g1 (by simp) (by rw [List.map_append]; exact r1.append (.cons rfl .nil)) (by rw [List.length_map, List.length_append, sizeLine_eq]; simp; omega)
    have keep2 : ∀ b o, H0 b = some o → upd (upd H s.heap.objs.size (.tup [.int (i : Nat), xs[i]])) S (.lst ((ts ++ [s.heap.objs.size]).map V.ref)) b = some o := fun b o q => by
      rw [upd_ne (ne_of_none q h0S), upd_ne (ne_of_none (keep _ _ q) fr)]
      exact keep _ _ q
    refine wpAny_bind (wpAny_updateSeq g1 rfl (wpAny_pure ⟨plainId_quiet PySem.F.plain_extend_loop _, ?_⟩) (by rw [List.size_toArray]; rw [sizeLine_eq]; omega) (by show (its1.toArray.push _).size ≤ sizeLine + 1; rw [Array.size_push, List.size_toArray, sizeLine_eq]; omega))
    refine ih (i + 1) (ts ++ [s.heap.objs.size]) _ _ (by omega) lt I2 upd_same ⟨by rw [List.length_append, lts]; rfl, fun j T hj => ?_⟩ keep2 ?_ fun b hb => ?_
    · by_cases c : j < ts.length
      · rw [List.getElem?_append_left c] at hj
        obtain ⟨x, h1, h2⟩ := hp.2 j T hj
        refine ⟨x, h1, ?_⟩
        have n1 : T ≠ S := fun q => by rw [q, hS] at h2; cases h2
        rw [upd_ne n1, upd_ne (ne_of_none h2 fr)]
        exact h2
      · have lj := (List.getElem?_eq_some_iff.mp hj).1
        rw [List.length_append, List.length_singleton] at lj
        have ej : j = ts.length := by omega
        subst ej
        rw [List.getElem?_concat_length] at hj
        obtain rfl := Option.some.inj hj
        refine ⟨xs[i], by rw [lts]; exact hx, ?_⟩
        rw [upd_ne (Ne.symm nS), upd_same, lts]
    · refine st'.keep (fun c o q => ?_) (fun o q => ?_) (fun o q => ?_)
      · by_cases c2 : c = S
        · subst c2
          exact ⟨_, Heap.get?_update_self _ q (by
            have q2 : h'.get? c = some o := q
            have g2 : h'.get? c = some _ := g1
            rw [g2] at q2
            cases q2
            rfl)⟩
        · exact ⟨o, (Heap.get?_update_other _ _ (Ne.symm c2)).trans q⟩
      · exact (Heap.get?_update_other _ _ Se).trans q
      · exact (Heap.get?_update_other _ _ Si).trans q
    · have lb : b < s.heap.objs.size := by
        obtain ⟨s1, s2⟩ := st
        rcases (show b = e ∨ b = it by simpa using hb) with q | q
        · rw [q]
          rcases s2 with ⟨_, g⟩ | ⟨_, _, _, _, g, _⟩
          · exact Heap.lt_size g
          · exact Heap.lt_size g
        · rw [q]
          obtain ⟨_, g, _⟩ := s1
          exact Heap.lt_size g
      have bS : b ≠ S := by
        rcases (show b = e ∨ b = it by simpa using hb) with q | q
        · rw [q]; exact Ne.symm Se
        · rw [q]; exact Ne.symm Si
      obtain ⟨f0, f1⟩ := hf b hb
      exact ⟨by rw [upd_ne bS, upd_ne (Nat.ne_of_lt lb)]; exact f0, f1⟩
theorem en_no_len : typeLookup (.type "enumerate") "__len__" = pure none := by rw [typeLookup_type, builtinLookup_eq_fast]; kernel_rfl
theorem en_no_hint : typeLookup (.type "enumerate") "__length_hint__" = pure none := by rw [typeLookup_type, builtinLookup_eq_fast]; kernel_rfl
theorem en_hint {M : Model} {A : Around} {E : Value → Shared → Prop} {Q : Bool → Shared → Prop} {s : Shared} (ty : s.TypeIs (.ref e) "enumerate") (h : Q true s) : wpAny M A (Builtin.List.listLengthHint (.ref e)) Q E s := by
  unfold Builtin.List.listLengthHint
  refine wpAny_bind (wpAny_specialOf ty en_no_len ?_)
  refine PySem.W.KFB.if_not rfl ?_
  refine PySem.W.KFB.if_not rfl ?_
  refine wpAny_bind (wpAny_specialOf ty en_no_hint ?_)
  exact wpAny_pure h
theorem en_extend (hd : A1.in1.handled = none) (ne : e ≠ it) (te : t ≠ e) (ti : t ≠ it) (Se : S ≠ e) (Si : S ≠ it) (lx : xs.length ≤ 100000) {H0 H : Hp} {s : Shared} (h0t : H0 t = some (.tup xs)) (h0S : H0 S = none)
    (done : ∀ ts H s, Inv X pins σ H s → H S = some (.lst (ts.map V.ref)) → enPairs xs xs.length H ts → (∀ b o, H0 b = some o → H b = some o) → Rs (.ok (.ret .none)) s)
    (I : Inv X pins σ H s) (hS : H S = some (.lst [])) (keep : ∀ b o, H0 b = some o → H b = some o) {old : Value} (he : IsEnum s.heap e it 0 old) (hit : s.heap.IsTupleIter it t 0) (hf : ∀ b ∈ [e, it], FpOk X pins H b) :
    wpAny (model X.prog X.w) A1.in1 (Builtin.List.listExtendWith (.ref S) (.ref e) .none)
      (fun fin s' => match fin with | .done f => Rs (.ok f) s' | .again c' => c'.quiet = true ∧ codeAny (model X.prog X.w) A1 c' Rs s') (fun e s' => Rs (.error e) s') s := by
  have ty : s.TypeIs (.ref e) "enumerate" := ⟨_, he, rfl⟩
  unfold Builtin.List.listExtendWith
  refine wpAny_bind (wpAny_typeOf ty ?_)
  have h1 : Builtin.List.listSameRef (.ref S) (.ref e) = false := by simp [Builtin.List.listSameRef, Se]
  simp only [h1, Bool.or_false]
  refine PySem.W.KFB.if_not rfl ?_
  refine wpAny_bind (wpAny_pyIter_enum he ?_)
  refine wpAny_bind (wpAny_holding (en_hint ty ?_))
  have st : EnSt s.heap e it t 0 := ⟨hit, Or.inl ⟨old, he⟩⟩
  obtain ⟨z, its, k, r3, hl3, e3⟩ := I.lstM hS
  cases r3
  refine wpAny_ite_split (fun _ => ?_) (fun _ => wpAny_pure ⟨plainId_quiet PySem.F.plain_extend_loop _, en_loop hd ne te ti Se Si lx h0t h0S done xs.length 0 [] H s (by omega) (Nat.zero_le _) I hS ⟨rfl, fun _ _ q => (nomatch q)⟩ keep st hf⟩)
  refine wpAny_bind (wpAny_rule ?_)
  refine wpAny_bind ?_
  show wpAny _ _ (updateSeq S (·.push .none) >>= fun _ => updateSeq S (·.pop)) _ _ _
  refine wpAny_bind (wpAny_updateSeq e3 rfl ?_)
  have I2 := I.lset (f := (·.push Value.none)) (its' := [Value.none]) (ys := [.non]) (t' := s.toks) hS e3 (by simp) (.cons rfl .nil) (by rw [List.length_singleton, sizeLine_eq]; decide)
  obtain ⟨z4, its4, k4, r4, hl4, e4⟩ := I2.lstM upd_same
  obtain ⟨u4, rfl, ru4⟩ := r4.one
  refine wpAny_updateSeq e4 rfl ?_ (by show 1 ≤ sizeLine; rw [sizeLine_eq]; decide) (by show 0 ≤ sizeLine + 1; exact Nat.zero_le _)
  have I3 := I2.lset (f := (·.pop)) (its := [u4]) (its' := []) (ys := []) (t' := s.toks) upd_same e4 (by rfl) .nil (Nat.zero_le _)
  rw [L2.upd_upd] at I3
  have hH : upd H S (.lst []) = H := by
    funext b
    by_cases hb : b = S
    · rw [hb, upd_same, hS]
    · rw [upd_ne hb]
  rw [hH] at I3
  refine wpAny_pure ⟨plainId_quiet PySem.F.plain_extend_loop _, en_loop hd ne te ti Se Si lx h0t h0S done xs.length 0 [] H _ (by omega) (Nat.zero_le _) I3 hS ⟨rfl, fun _ _ q => (nomatch q)⟩ keep ⟨hit.at fun o q => ?_, Or.inl ⟨old, ?_⟩⟩ hf⟩
  · exact (Heap.get?_update_other _ _ Si).trans ((Heap.get?_update_other _ _ Si).trans q)
  · exact (Heap.get?_update_other _ _ Se).trans ((Heap.get?_update_other _ _ Se).trans he)
end
/-- list(enumerate(t)) -/
def rListEn (K : PySem.W.Frag) (vs : List V) (H : Hp) (Q : VK) : Prop := ∃ (t : Addr) (xs : List V), vs = [.ref t] ∧ H t = some (.tup xs) ∧ xs.length ≤ 100000 ∧
  ∀ S ts G, H S = none → (∀ b o, H b = some o → G b = some o) → G S = some (.lst (ts.map V.ref)) → enPairs xs xs.length G ts → Q (.ref S) G
def tListEn (K : PySem.W.Frag) (ta : TA) : TE := fun σ H Q => ta σ H fun vs H1 => rListEn K vs H1 Q
section
variable {X : Cx} {e : Expr} {ta : TA} {p p2 pos pos2 : Pos}
theorem pe_listEnT (hc : X.calm = true) (ha : PA X [e] ta) (hgE : Gl X "enumerate") (hmE : X.mg "enumerate" = none) (hg : Gl X "list") (hm : X.mg "list" = none) (hv : bootBuiltins "list" = some (.type "list"))
    (hsE : starEach [e] X.env = [(false, eval e X.env)] := by rfl) (hs : starEach [.Call (.Name "enumerate" p2) [e] [] pos2] X.env = (false, eval (.Call (.Name "enumerate" p2) [e] [] pos2) X.env) :: starEach [] X.env := by rfl) :
    PE X (.Call (.Name "list" p) [.Call (.Name "enumerate" p2) [e] [] pos2] [] pos) (tListEn X.K ta) := by
  refine ⟨fun pins s σ H Q I hq => ?_⟩
  refine wpAny_Call_Name_kw (ld_blt I hg hm hv ?_)
  refine PyProof.Rows.callWith_type1 ?_ hs rfl
  rw [hs]
  show wpAny _ _ (spliced ((false, eval (.Call (.Name "enumerate" p2) [e] [] pos2) X.env) :: backTo pos (starEach [] X.env))) _ _ s
  refine Calls.spliced_cons ?_
  refine wpAny_Call_Name_kw (ld_blt I hgE hmE boot_enumerate ?_)
  refine PyProof.Rows.callWith_type1 (thn (ha.run pos2 pins s σ H _ I hq) fun us s1 ⟨vs, H1, I1, r1, q1⟩ => ?_) hsE rfl
  obtain ⟨t, xs, rfl, et, lx, q⟩ := q1
  cases r1 with
  | cons r rr =>
    cases rr
    cases r
    obtain ⟨its, rv, p', hz⟩ := I1.tuple (tup_at et)
    have tl : t < s1.heap.objs.size := by obtain ⟨_, g, _⟩ := id p'; exact Heap.lt_size g
    refine g9_enum_begins (begins_tuple t its.toArray) p' fun h' he ho hsz hk => ?_
    have I2 : Inv X pins σ H1 { s1 with heap := h' } := I1.kept (t' := s1.toks) hk
    refine Calls.spliced_nil ?_
    refine callType_codes (Q₁ := fun obj s₁ => obj = .ref h'.objs.size ∧ s₁ = { s1 with heap := h'.push { cls := .type "list", data := .seq #[] } }) PySem.F.called_list (PySem.F.typeCall_list_1 _) PySem.F.entry_list_init (code_list_new _ ⟨rfl, rfl⟩) fun obj s₁ h₁ => ?_
    obtain ⟨rfl, rfl⟩ := h₁
    have hS : (h'.push { cls := .type "list", data := .seq #[] }).get? h'.objs.size = some { cls := .type "list", data := .seq #[] } := Heap.get?_push_size _ rfl
    refine ⟨⟨_, hS, rfl⟩, PySem.F.args_list_init_2 _ _, ?_⟩
    have fr : H1 h'.objs.size = none := I2.hok.fresh (Nat.le_refl _)
    have I3 : Inv X pins σ (upd H1 h'.objs.size (.lst [])) { s1 with heap := h'.push { cls := .type "list", data := .seq #[] } } := I2.lnew (its := []) (t' := s1.toks) .nil (Nat.zero_le _)
    show wpAny _ _ (do let old ← Builtin.List.listItems (.ref h'.objs.size); Builtin.List.listUpdate (.ref h'.objs.size) (fun _ => #[]); letGo old.toList.reverse; Builtin.List.listExtendWith (.ref h'.objs.size) (.ref (s1.heap.objs.size + 1)) .none) _ _ _
    refine wpAny_bind ?_
    unfold Builtin.List.listItems
    refine wpAny_bind (wpAny_seqItems hS rfl (wpAny_pure ?_))
    show wpAny _ _ (updateSeq h'.objs.size (fun _ => #[]) >>= fun _ => letGo (#[] : Array Value).toList.reverse >>= fun _ => Builtin.List.listExtendWith (.ref h'.objs.size) (.ref (s1.heap.objs.size + 1)) .none) _ _ _
    refine wpAny_bind (wpAny_updateSeq hS rfl ?_)
    have I4 := I3.lset (f := fun _ => #[]) (its := []) (its' := []) (ys := []) (t' := s1.toks) upd_same hS rfl .nil (Nat.zero_le _)
    rw [L2.upd_upd] at I4
    refine wpAny_bind (wpAny_letGo ?_)
    have nS : ∀ {c : Addr}, c < h'.objs.size → h'.objs.size ≠ c := fun h => Nat.ne_of_gt h
    have le : s1.heap.objs.size + 1 < h'.objs.size := by omega
    have li : s1.heap.objs.size < h'.objs.size := by omega
    refine en_extend (A1 := X.A.in1) (S := h'.objs.size) (e := s1.heap.objs.size + 1) (it := s1.heap.objs.size) (t := t) (xs := xs) (H0 := H1) (old := .none) (Rs := wants (fun r s₂ => r = .none ∧ EP X pins σ Q (.ref h'.objs.size) s₂) X.xe) (I.ok.hd hc) (Nat.succ_ne_self _) (Nat.ne_of_lt (Nat.lt_succ_of_lt tl)) (Nat.ne_of_lt tl) (nS le) (nS li) lx et fr ?_ I4 upd_same (fun b o g => by rw [upd_ne (ne_of_none g fr)]; exact g) ?_ ?_ ?_
    · intro ts G s' I' g1 g2 g3
      exact ⟨rfl, .ref h'.objs.size, G, I', rfl, q _ ts G fr g3 g1 g2⟩
    · exact (Heap.get?_update_other _ _ (nS le)).trans (Heap.get?_push_of_some _ he)
    · exact ⟨_, (Heap.get?_update_other _ _ (nS li)).trans (Heap.get?_push_of_some _ ho), rfl, rfl⟩
    · intro b hb
      have hb' : s1.heap.objs.size ≤ b ∧ b < h'.objs.size := by
        rcases (show b = s1.heap.objs.size + 1 ∨ b = s1.heap.objs.size by simpa using hb) with g | g
        · rw [g]
          exact ⟨Nat.le_succ _, le⟩
        · rw [g]
          exact ⟨Nat.le_refl _, li⟩
      have f := I1.fpOk hb'.1 (I1.hok.fresh hb'.1)
      exact ⟨by rw [upd_ne (Nat.ne_of_lt hb'.2)]; exact f.1, f.2⟩
end
end G9

namespace K04
open PySem PySem.Spec PyProof.Rows L2 G9
local macro_rules | `(tactic| walk_at "s1") => `(tactic| first
  | ((with_reducible refine' s_var ?hv ?_); (case hv => rfl))
  | (with_reducible refine' s_seq ?_) | (with_reducible refine' s_asg ?_) | (with_reducible refine' s_name ?_) | (with_reducible refine' s_if ?_) | (with_reducible refine' s_ret ?_)
  | (with_reducible refine' s_op ?_) | (with_reducible refine' s_c ?_) | (with_reducible refine' s_cb ?_) | (with_reducible refine' s_cons ?_) | (with_reducible refine' s_nil ?_) | (with_reducible refine' s_consts ?_)
  | (with_reducible refine' s_call ?_) | (with_reducible refine' s_lst ?_) | (with_reducible refine' s_tup ?_) | (with_reducible refine' s_un ?_) | (with_reducible refine' s_next ?_) | (with_reducible refine' s_drop ?_)
  | (with_reducible refine' s_ifE ?_) | (with_reducible refine' s_tb ?_) | (with_reducible refine' s_test ?_) | (with_reducible refine' s_yes ?_) | (with_reducible refine' s_not ?_) | (with_reducible refine' s_and ?_) | (with_reducible refine' s_or ?_)
  | (with_reducible refine' s_andV ?_) | (with_reducible refine' s_orV ?_) | (with_reducible refine' s_notV ?_) | (with_reducible refine' s_chain ?_)
  | (with_reducible refine' s_par ?_) | (with_reducible refine' l_par ?_) | (with_reducible refine' s_par3 ?_) | (with_reducible refine' l_par3 ?_)
  | (with_reducible refine' s_sub ?_) | (with_reducible refine' s_gnil ?_) | (with_reducible refine' s_gcons ?_) | (with_reducible refine' s_slice ?_) | (with_reducible refine' s_nopart ?_) | (with_reducible refine' s_part ?_) | (with_reducible refine' l_part ?_)
  | (with_reducible refine' s_forR ?_) | (with_reducible refine' s_forT ?_) | (with_reducible refine' s_forL ?_) | (with_reducible refine' s_lcS ?_) | (with_reducible refine' s_lcL ?_) | (with_reducible refine' s_lcT ?_)
  | (with_reducible refine' s_fld ?_) | (with_reducible refine' s_setf ?_) | (with_reducible refine' s_ownM ?_) | (with_reducible refine' s_ownP ?_) | (with_reducible refine' s_clsM ?_) | (with_reducible refine' s_dget ?_) | (with_reducible refine' s_makeKW ?_) | (with_reducible refine' s_dcLp ?_)
  | ((with_reducible refine' s_told0 ?hv ?_); (case hv => rfl))
  | (with_reducible refine' l_inS ?_) | (with_reducible refine' l_ninS ?_)
  | ((with_reducible refine' l_slS ?hc ?_); (case hc => first | with_reducible assumption | decide +kernel | omega))
  | (with_reducible refine' l_bl ?_) | (with_reducible refine' l_I0 ?_) | (with_reducible refine' l_U ?_)
  | ((with_reducible refine' l_I ?hc ?_); (case hc => first | decide +kernel | omega | (left; constructor <;> omega) | (right; constructor <;> omega) | (constructor <;> omega)))
  | ((with_reducible refine' l_eq ?hc ?_); (case hc => rfl)) | ((with_reducible refine' l_ne ?hc ?_); (case hc => rfl))
  | (with_reducible refine' l_int1 ?_) | (with_reducible refine' l_int1b ?_) | (with_reducible refine' l_abs ?_) | (with_reducible refine' l_max2 ?_) | (with_reducible refine' l_min2 ?_)
  | ((with_reducible refine' l_addS ?hc ?_); (case hc => first | with_reducible assumption | decide +kernel | omega))
  | (with_reducible refine' l_leS ?_)
  | ((with_reducible refine' l_lenL ?hc ?_); (case hc => first | assumption | exact SqL.of (by assumption)))
  | ((with_reducible refine' l_lenS ?hc ?_); (case hc => first | with_reducible assumption | decide +kernel)))
local macro_rules | `(tactic| walk_at "s") => `(tactic| repeat (walk_at "s1"))
def topS (i : Nat) : Stmt := PySem.Challenge.pw_skipahead_k04_items_and_rows_judged.main.body.getD i (.Pass ⟨0, 0, 0, 0⟩)
abbrev s__wall : Stmt := (topS 0)
theorem sc__wall : FnScope ["k"] ["k"] (defScope s__wall) := ⟨rfl, rfl, rfl, by decide +kernel, rfl, by decide +kernel, by decide +kernel⟩
abbrev s_is_count : Stmt := (topS 7)
theorem sc_is_count : FnScope ["value"] ["value"] (defScope s_is_count) := ⟨rfl, rfl, rfl, by decide +kernel, rfl, by decide +kernel, by decide +kernel⟩
abbrev s_is_name : Stmt := (topS 11)
theorem sc_is_name : FnScope ["value"] ["value"] (defScope s_is_name) := ⟨rfl, rfl, rfl, by decide +kernel, rfl, by decide +kernel, by decide +kernel⟩
abbrev s_is_answer : Stmt := (topS 12)
theorem sc_is_answer : FnScope ["value"] ["value"] (defScope s_is_answer) := ⟨rfl, rfl, rfl, by decide +kernel, rfl, by decide +kernel, by decide +kernel⟩
abbrev s_is_names : Stmt := (topS 13)
theorem sc_is_names : FnScope ["value", "last", "name"] ["value"] (defScope s_is_names) := ⟨rfl, rfl, rfl, by decide +kernel, rfl, by decide +kernel, by decide +kernel⟩
abbrev s_book_with : Stmt := (topS 19)
theorem sc_book_with : FnScope ["pairs", "book"] ["pairs"] (defScope s_book_with) := ⟨rfl, rfl, rfl, by decide +kernel, rfl, by decide +kernel, by decide +kernel⟩
abbrev s_outcomes_in : Stmt := (topS 20)
theorem sc_outcomes_in : FnScope ["pairs", "command"] ["pairs"] (defScope s_outcomes_in) := ⟨rfl, rfl, rfl, by decide +kernel, rfl, by decide +kernel, by decide +kernel⟩
abbrev s_pairs_of : Stmt := (topS 21)
theorem sc_pairs_of : FnScope ["book"] ["book"] (defScope s_pairs_of) := ⟨rfl, rfl, rfl, by decide +kernel, rfl, by decide +kernel, by decide +kernel⟩
abbrev s_checked_pairs : Stmt := (topS 22)
theorem sc_checked_pairs : FnScope ["commands", "command"] ["commands"] (defScope s_checked_pairs) := ⟨rfl, rfl, rfl, by decide +kernel, rfl, by decide +kernel, by decide +kernel⟩
abbrev s_is_pair : Stmt := (topS 23)
theorem sc_is_pair : FnScope ["value", "takes", "answers", "name"] ["value"] (defScope s_is_pair) := ⟨rfl, rfl, rfl, by decide +kernel, rfl, by decide +kernel, by decide +kernel⟩
abbrev s_need_book : Stmt := (topS 24)
theorem sc_need_book : FnScope ["book"] ["book"] (defScope s_need_book) := ⟨rfl, rfl, rfl, by decide +kernel, rfl, by decide +kernel, by decide +kernel⟩
abbrev s_is_item : Stmt := (topS 27)
theorem sc_is_item : FnScope ["book", "value"] ["book", "value"] (defScope s_is_item) := ⟨rfl, rfl, rfl, by decide +kernel, rfl, by decide +kernel, by decide +kernel⟩
abbrev s_is_item_with : Stmt := (topS 28)
theorem sc_is_item_with : FnScope ["pairs", "value", "word", "command", "arguments", "argument"] ["pairs", "value"] (defScope s_is_item_with) := ⟨rfl, rfl, rfl, by decide +kernel, rfl, by decide +kernel, by decide +kernel⟩
abbrev s_is_items : Stmt := (topS 29)
theorem sc_is_items : FnScope ["book", "value", "pairs", "at", "item"] ["book", "value"] (defScope s_is_items) := ⟨rfl, rfl, rfl, by decide +kernel, rfl, by decide +kernel, by decide +kernel⟩
abbrev s_is_row : Stmt := (topS 30)
theorem sc_is_row : FnScope ["book", "value", "known", "command", "outcome"] ["book", "value"] (defScope s_is_row) := ⟨rfl, rfl, rfl, by decide +kernel, rfl, by decide +kernel, by decide +kernel⟩
abbrev s_is_argument : Stmt := (topS 31)
theorem sc_is_argument : FnScope ["value"] ["value"] (defScope s_is_argument) := ⟨rfl, rfl, rfl, by decide +kernel, rfl, by decide +kernel, by decide +kernel⟩
abbrev s_can_stand : Stmt := (topS 32)
theorem sc_can_stand : FnScope ["argument", "items", "at"] ["argument", "items", "at"] (defScope s_can_stand) := ⟨rfl, rfl, rfl, by decide +kernel, rfl, by decide +kernel, by decide +kernel⟩
abbrev s_is_behind : Stmt := (topS 33)
theorem sc_is_behind : FnScope ["item", "items", "at", "argument"] ["item", "items", "at"] (defScope s_is_behind) := ⟨rfl, rfl, rfl, by decide +kernel, rfl, by decide +kernel, by decide +kernel⟩
abbrev s__law_dice : Stmt := (topS 35)
theorem sc__law_dice : FnScope ["script", "at", "cell", "great", "mixed"] ["script", "at"] (defScope s__law_dice) := ⟨rfl, rfl, rfl, by decide +kernel, rfl, by decide +kernel, by decide +kernel⟩
abbrev s__law_roll : Stmt := (topS 36)
theorem sc__law_roll : FnScope ["dice", "total", "found", "one", "two"] ["dice", "total"] (defScope s__law_roll) := ⟨rfl, rfl, rfl, by decide +kernel, rfl, by decide +kernel, by decide +kernel⟩
abbrev s__law_one_of : Stmt := (topS 37)
theorem sc__law_one_of : FnScope ["dice", "items"] ["dice", "items"] (defScope s__law_one_of) := ⟨rfl, rfl, rfl, by decide +kernel, rfl, by decide +kernel, by decide +kernel⟩
abbrev s__law_mixed : Stmt := (topS 38)
theorem sc__law_mixed : FnScope ["dice", "items", "left", "turn"] ["dice", "items"] (defScope s__law_mixed) := ⟨rfl, rfl, rfl, by decide +kernel, rfl, by decide +kernel, by decide +kernel⟩
abbrev s__law_name : Stmt := (topS 39)
theorem sc__law_name : FnScope ["dice", "taken", "letters", "word", "turn", "spare", "letter", "one"] ["dice", "taken"] (defScope s__law_name) := ⟨rfl, rfl, rfl, by decide +kernel, rfl, by decide +kernel, by decide +kernel⟩
abbrev s__law_names : Stmt := (topS 40)
theorem sc__law_names : FnScope ["dice", "size", "found", "turn"] ["dice", "size"] (defScope s__law_names) := ⟨rfl, rfl, rfl, by decide +kernel, rfl, by decide +kernel, by decide +kernel⟩
abbrev s__law_pairs : Stmt := (topS 41)
theorem sc__law_pairs : FnScope ["dice", "most", "answers", "names", "pool", "found", "word", "some"] ["dice", "most", "answers"] (defScope s__law_pairs) := ⟨rfl, rfl, rfl, by decide +kernel, rfl, by decide +kernel, by decide +kernel⟩
abbrev s__law_item : Stmt := (topS 42)
theorem sc__law_item : FnScope ["dice", "pairs", "words", "sends", "command", "found", "turn", "way"] ["dice", "pairs", "words", "sends"] (defScope s__law_item) := ⟨rfl, rfl, rfl, by decide +kernel, rfl, by decide +kernel, by decide +kernel⟩
abbrev s__law_spoilt : Stmt := (topS 43)
theorem sc__law_spoilt : FnScope ["dice", "value", "odd", "way", "at"] ["dice", "value", "odd"] (defScope s__law_spoilt) := ⟨rfl, rfl, rfl, by decide +kernel, rfl, by decide +kernel, by decide +kernel⟩
abbrev s__law_odd : Stmt := (topS 44)
theorem sc__law_odd : FnScope ["dice", "some"] ["dice"] (defScope s__law_odd) := ⟨rfl, rfl, rfl, by decide +kernel, rfl, by decide +kernel, by decide +kernel⟩
abbrev s__law_is_name : Stmt := (topS 45)
theorem sc__law_is_name : FnScope ["value", "sign"] ["value"] (defScope s__law_is_name) := ⟨rfl, rfl, rfl, by decide +kernel, rfl, by decide +kernel, by decide +kernel⟩
abbrev s__law_is_integer : Stmt := (topS 46)
theorem sc__law_is_integer : FnScope ["value"] ["value"] (defScope s__law_is_integer) := ⟨rfl, rfl, rfl, by decide +kernel, rfl, by decide +kernel, by decide +kernel⟩
abbrev s__law_is_item : Stmt := (topS 47)
theorem sc__law_is_item : FnScope ["pairs", "value", "one"] ["pairs", "value"] (defScope s__law_is_item) := ⟨rfl, rfl, rfl, by decide +kernel, rfl, by decide +kernel, by decide +kernel⟩
abbrev s__law_are_items : Stmt := (topS 48)
theorem sc__law_are_items : FnScope ["pairs", "value", "sends", "at", "item", "one"] ["pairs", "value"] (defScope s__law_are_items) := ⟨rfl, rfl, rfl, by decide +kernel, rfl, by decide +kernel, by decide +kernel⟩
abbrev s__law_all_outcomes : Stmt := (topS 49)
theorem sc__law_all_outcomes : FnScope ["pairs", "found", "command", "one"] ["pairs"] (defScope s__law_all_outcomes) := ⟨rfl, rfl, rfl, by decide +kernel, rfl, by decide +kernel, by decide +kernel⟩
abbrev s__law_is_row : Stmt := (topS 50)
theorem sc__law_is_row : FnScope ["pairs", "value", "outcomes", "one"] ["pairs", "value"] (defScope s__law_is_row) := ⟨rfl, rfl, rfl, by decide +kernel, rfl, by decide +kernel, by decide +kernel⟩
abbrev s__law_is_refused : Stmt := (topS 51)
theorem sc__law_is_refused : FnScope ["call"] ["call"] (defScope s__law_is_refused) := ⟨rfl, rfl, rfl, by decide +kernel, rfl, by decide +kernel, by decide +kernel⟩
abbrev s__law_drawn_items : Stmt := (topS 52)
theorem sc__law_drawn_items : FnScope ["dice", "pairs", "words", "many", "found", "sends", "at"] ["dice", "pairs", "words", "many"] (defScope s__law_drawn_items) := ⟨rfl, rfl, rfl, by decide +kernel, rfl, by decide +kernel, by decide +kernel⟩
abbrev s__law_changed_item : Stmt := (topS 53)
theorem sc__law_changed_item : FnScope ["dice", "pairs", "item", "way", "odd"] ["dice", "pairs", "item"] (defScope s__law_changed_item) := ⟨rfl, rfl, rfl, by decide +kernel, rfl, by decide +kernel, by decide +kernel⟩
abbrev s__law_changed_row : Stmt := (topS 54)
theorem sc__law_changed_row : FnScope ["dice", "row", "more", "odd"] ["dice", "row", "more"] (defScope s__law_changed_row) := ⟨rfl, rfl, rfl, by decide +kernel, rfl, by decide +kernel, by decide +kernel⟩
abbrev s__law_right : Stmt := (topS 55)
theorem sc__law_right : FnScope ["dice", "pairs", "words", "book", "outcomes", "items", "turn", "row", "others", "at", "some", "before", "told", "due", "bent", "mixed", "odd", "rows", "one"] ["dice"] (defScope s__law_right) := ⟨rfl, rfl, rfl, by decide +kernel, rfl, by decide +kernel, by decide +kernel⟩
abbrev s_law : Stmt := (topS 56)
theorem sc_law : FnScope ["script", "at", "book", "first", "then", "told"] ["script"] (defScope s_law) := ⟨rfl, rfl, rfl, by decide +kernel, rfl, by decide +kernel, by decide +kernel⟩
abbrev s_Book___init__ : Stmt := (inClass (topS 18) 0)
theorem sc_Book___init__ : FnScope ["self", "commands"] ["self", "commands"] (defScope s_Book___init__) := ⟨rfl, rfl, rfl, by decide +kernel, rfl, by decide +kernel, by decide +kernel⟩
abbrev s_Book_of : Stmt := (inClass (topS 18) 1)
theorem sc_Book_of : FnScope ["cls", "commands"] ["cls", "commands"] (defScope s_Book_of) := ⟨rfl, rfl, rfl, by decide +kernel, rfl, by decide +kernel, by decide +kernel⟩
abbrev s_Book_commands : Stmt := (inClass (topS 18) 2)
theorem sc_Book_commands : FnScope ["self"] ["self"] (defScope s_Book_commands) := ⟨rfl, rfl, rfl, by decide +kernel, rfl, by decide +kernel, by decide +kernel⟩
abbrev s_Book_takes : Stmt := (inClass (topS 18) 3)
theorem sc_Book_takes : FnScope ["self", "command"] ["self", "command"] (defScope s_Book_takes) := ⟨rfl, rfl, rfl, by decide +kernel, rfl, by decide +kernel, by decide +kernel⟩
abbrev s_Book_answers : Stmt := (inClass (topS 18) 4)
theorem sc_Book_answers : FnScope ["self", "command"] ["self", "command"] (defScope s_Book_answers) := ⟨rfl, rfl, rfl, by decide +kernel, rfl, by decide +kernel, by decide +kernel⟩
abbrev s_Book_outcomes : Stmt := (inClass (topS 18) 5)
theorem sc_Book_outcomes : FnScope ["self", "command"] ["self", "command"] (defScope s_Book_outcomes) := ⟨rfl, rfl, rfl, by decide +kernel, rfl, by decide +kernel, by decide +kernel⟩
abbrev s_Book_without : Stmt := (inClass (topS 18) 6)
theorem sc_Book_without : FnScope ["self", "command"] ["self", "command"] (defScope s_Book_without) := ⟨rfl, rfl, rfl, by decide +kernel, rfl, by decide +kernel, by decide +kernel⟩
abbrev s_Book_is_within : Stmt := (inClass (topS 18) 7)
theorem sc_Book_is_within : FnScope ["self", "other"] ["self", "other"] (defScope s_Book_is_within) := ⟨rfl, rfl, rfl, by decide +kernel, rfl, by decide +kernel, by decide +kernel⟩
abbrev s_Book___or__ : Stmt := (inClass (topS 18) 8)
theorem sc_Book___or__ : FnScope ["self", "other", "pairs", "command"] ["self", "other"] (defScope s_Book___or__) := ⟨rfl, rfl, rfl, by decide +kernel, rfl, by decide +kernel, by decide +kernel⟩
abbrev s_Book___getitem__ : Stmt := (inClass (topS 18) 9)
theorem sc_Book___getitem__ : FnScope ["self", "command"] ["self", "command"] (defScope s_Book___getitem__) := ⟨rfl, rfl, rfl, by decide +kernel, rfl, by decide +kernel, by decide +kernel⟩
abbrev s_Book___contains__ : Stmt := (inClass (topS 18) 10)
theorem sc_Book___contains__ : FnScope ["self", "value"] ["self", "value"] (defScope s_Book___contains__) := ⟨rfl, rfl, rfl, by decide +kernel, rfl, by decide +kernel, by decide +kernel⟩
abbrev s_Book___iter__ : Stmt := (inClass (topS 18) 11)
theorem sc_Book___iter__ : FnScope ["self"] ["self"] (defScope s_Book___iter__) := ⟨rfl, rfl, rfl, by decide +kernel, rfl, by decide +kernel, by decide +kernel⟩
abbrev s_Book___len__ : Stmt := (inClass (topS 18) 12)
theorem sc_Book___len__ : FnScope ["self"] ["self"] (defScope s_Book___len__) := ⟨rfl, rfl, rfl, by decide +kernel, rfl, by decide +kernel, by decide +kernel⟩
abbrev s_Book___eq__ : Stmt := (inClass (topS 18) 13)
theorem sc_Book___eq__ : FnScope ["self", "other"] ["self", "other"] (defScope s_Book___eq__) := ⟨rfl, rfl, rfl, by decide +kernel, rfl, by decide +kernel, by decide +kernel⟩
abbrev s_Book___str__ : Stmt := (inClass (topS 18) 14)
theorem sc_Book___str__ : FnScope ["self"] ["self"] (defScope s_Book___str__) := ⟨rfl, rfl, rfl, by decide +kernel, rfl, by decide +kernel, by decide +kernel⟩
abbrev s_UnknownName_init : Stmt := (inClass (topS 5) 0)
theorem sc_UnknownName_init : SupScope ["self", "name"] ["self", "name"] "self" (defScope s_UnknownName_init) := ⟨rfl, rfl, rfl, by decide +kernel, rfl, by decide +kernel, by decide +kernel, by decide +kernel, by decide +kernel, by decide +kernel, by decide +kernel⟩
abbrev prog0 : Program := PySem.Challenge.rw_skipahead_k04_items_and_rows_judged.prog
structure Txt (K : PySem.W.Frag) (mg : Str → Option Value) where
  a__wall : Addr
  d__wall : FuncData
  F__wall : Fun K "_wall" "_wall" s__wall a__wall d__wall
  m__wall : mg "_wall" = some (.ref a__wall)
  b__wall : Binds K d__wall ["k"] []
  a_is_count : Addr
  d_is_count : FuncData
  F_is_count : Fun K "is_count" "is_count" s_is_count a_is_count d_is_count
  m_is_count : mg "is_count" = some (.ref a_is_count)
  b_is_count : Binds K d_is_count ["value"] []
  a_is_name : Addr
  d_is_name : FuncData
  F_is_name : Fun K "is_name" "is_name" s_is_name a_is_name d_is_name
  m_is_name : mg "is_name" = some (.ref a_is_name)
  b_is_name : Binds K d_is_name ["value"] []
  a_is_answer : Addr
  d_is_answer : FuncData
  F_is_answer : Fun K "is_answer" "is_answer" s_is_answer a_is_answer d_is_answer
  m_is_answer : mg "is_answer" = some (.ref a_is_answer)
  b_is_answer : Binds K d_is_answer ["value"] []
  a_is_names : Addr
  d_is_names : FuncData
  F_is_names : Fun K "is_names" "is_names" s_is_names a_is_names d_is_names
  m_is_names : mg "is_names" = some (.ref a_is_names)
  b_is_names : Binds K d_is_names ["value"] []
  a_book_with : Addr
  d_book_with : FuncData
  F_book_with : Fun K "book_with" "book_with" s_book_with a_book_with d_book_with
  m_book_with : mg "book_with" = some (.ref a_book_with)
  b_book_with : Binds K d_book_with ["pairs"] []
  a_outcomes_in : Addr
  d_outcomes_in : FuncData
  F_outcomes_in : Fun K "outcomes_in" "outcomes_in" s_outcomes_in a_outcomes_in d_outcomes_in
  m_outcomes_in : mg "outcomes_in" = some (.ref a_outcomes_in)
  b_outcomes_in : Binds K d_outcomes_in ["pairs"] []
  a_pairs_of : Addr
  d_pairs_of : FuncData
  F_pairs_of : Fun K "pairs_of" "pairs_of" s_pairs_of a_pairs_of d_pairs_of
  m_pairs_of : mg "pairs_of" = some (.ref a_pairs_of)
  b_pairs_of : Binds K d_pairs_of ["book"] []
  a_checked_pairs : Addr
  d_checked_pairs : FuncData
  F_checked_pairs : Fun K "checked_pairs" "checked_pairs" s_checked_pairs a_checked_pairs d_checked_pairs
  m_checked_pairs : mg "checked_pairs" = some (.ref a_checked_pairs)
  b_checked_pairs : Binds K d_checked_pairs ["commands"] []
  a_is_pair : Addr
  d_is_pair : FuncData
  F_is_pair : Fun K "is_pair" "is_pair" s_is_pair a_is_pair d_is_pair
  m_is_pair : mg "is_pair" = some (.ref a_is_pair)
  b_is_pair : Binds K d_is_pair ["value"] []
  a_need_book : Addr
  d_need_book : FuncData
  F_need_book : Fun K "need_book" "need_book" s_need_book a_need_book d_need_book
  m_need_book : mg "need_book" = some (.ref a_need_book)
  b_need_book : Binds K d_need_book ["book"] []
  a_is_item : Addr
  d_is_item : FuncData
  F_is_item : Fun K "is_item" "is_item" s_is_item a_is_item d_is_item
  m_is_item : mg "is_item" = some (.ref a_is_item)
  b_is_item : Binds K d_is_item ["book", "value"] []
  a_is_item_with : Addr
  d_is_item_with : FuncData
  F_is_item_with : Fun K "is_item_with" "is_item_with" s_is_item_with a_is_item_with d_is_item_with
  m_is_item_with : mg "is_item_with" = some (.ref a_is_item_with)
  b_is_item_with : Binds K d_is_item_with ["pairs", "value"] []
  a_is_items : Addr
  d_is_items : FuncData
  F_is_items : Fun K "is_items" "is_items" s_is_items a_is_items d_is_items
  m_is_items : mg "is_items" = some (.ref a_is_items)
  b_is_items : Binds K d_is_items ["book", "value"] []
  a_is_row : Addr
  d_is_row : FuncData
  F_is_row : Fun K "is_row" "is_row" s_is_row a_is_row d_is_row
  m_is_row : mg "is_row" = some (.ref a_is_row)
  b_is_row : Binds K d_is_row ["book", "value"] []
  a_is_argument : Addr
  d_is_argument : FuncData
  F_is_argument : Fun K "is_argument" "is_argument" s_is_argument a_is_argument d_is_argument
  m_is_argument : mg "is_argument" = some (.ref a_is_argument)
  b_is_argument : Binds K d_is_argument ["value"] []
  a_can_stand : Addr
  d_can_stand : FuncData
  F_can_stand : Fun K "can_stand" "can_stand" s_can_stand a_can_stand d_can_stand
  m_can_stand : mg "can_stand" = some (.ref a_can_stand)
  b_can_stand : Binds K d_can_stand ["argument", "items", "at"] []
  a_is_behind : Addr
  d_is_behind : FuncData
  F_is_behind : Fun K "is_behind" "is_behind" s_is_behind a_is_behind d_is_behind
  m_is_behind : mg "is_behind" = some (.ref a_is_behind)
  b_is_behind : Binds K d_is_behind ["item", "items", "at"] []
  a__law_dice : Addr
  d__law_dice : FuncData
  F__law_dice : Fun K "_law_dice" "_law_dice" s__law_dice a__law_dice d__law_dice
  m__law_dice : mg "_law_dice" = some (.ref a__law_dice)
  b__law_dice : Binds K d__law_dice ["script", "at"] []
  a__law_roll : Addr
  d__law_roll : FuncData
  F__law_roll : Fun K "_law_roll" "_law_roll" s__law_roll a__law_roll d__law_roll
  m__law_roll : mg "_law_roll" = some (.ref a__law_roll)
  b__law_roll : Binds K d__law_roll ["dice", "total"] []
  a__law_one_of : Addr
  d__law_one_of : FuncData
  F__law_one_of : Fun K "_law_one_of" "_law_one_of" s__law_one_of a__law_one_of d__law_one_of
  m__law_one_of : mg "_law_one_of" = some (.ref a__law_one_of)
  b__law_one_of : Binds K d__law_one_of ["dice", "items"] []
  a__law_mixed : Addr
  d__law_mixed : FuncData
  F__law_mixed : Fun K "_law_mixed" "_law_mixed" s__law_mixed a__law_mixed d__law_mixed
  m__law_mixed : mg "_law_mixed" = some (.ref a__law_mixed)
  b__law_mixed : Binds K d__law_mixed ["dice", "items"] []
  a__law_name : Addr
  d__law_name : FuncData
  F__law_name : Fun K "_law_name" "_law_name" s__law_name a__law_name d__law_name
  m__law_name : mg "_law_name" = some (.ref a__law_name)
  b__law_name : Binds K d__law_name ["dice", "taken"] []
  a__law_names : Addr
  d__law_names : FuncData
  F__law_names : Fun K "_law_names" "_law_names" s__law_names a__law_names d__law_names
  m__law_names : mg "_law_names" = some (.ref a__law_names)
  b__law_names : Binds K d__law_names ["dice", "size"] []
  a__law_pairs : Addr
  d__law_pairs : FuncData
  F__law_pairs : Fun K "_law_pairs" "_law_pairs" s__law_pairs a__law_pairs d__law_pairs
  m__law_pairs : mg "_law_pairs" = some (.ref a__law_pairs)
  b__law_pairs : Binds K d__law_pairs ["dice", "most", "answers"] []
  a__law_item : Addr
  d__law_item : FuncData
  F__law_item : Fun K "_law_item" "_law_item" s__law_item a__law_item d__law_item
  m__law_item : mg "_law_item" = some (.ref a__law_item)
  b__law_item : Binds K d__law_item ["dice", "pairs", "words", "sends"] []
  a__law_spoilt : Addr
  d__law_spoilt : FuncData
  F__law_spoilt : Fun K "_law_spoilt" "_law_spoilt" s__law_spoilt a__law_spoilt d__law_spoilt
  m__law_spoilt : mg "_law_spoilt" = some (.ref a__law_spoilt)
  b__law_spoilt : Binds K d__law_spoilt ["dice", "value", "odd"] []
  a__law_odd : Addr
  d__law_odd : FuncData
  F__law_odd : Fun K "_law_odd" "_law_odd" s__law_odd a__law_odd d__law_odd
  m__law_odd : mg "_law_odd" = some (.ref a__law_odd)
  b__law_odd : Binds K d__law_odd ["dice"] []
  a__law_is_name : Addr
  d__law_is_name : FuncData
  F__law_is_name : Fun K "_law_is_name" "_law_is_name" s__law_is_name a__law_is_name d__law_is_name
  m__law_is_name : mg "_law_is_name" = some (.ref a__law_is_name)
  b__law_is_name : Binds K d__law_is_name ["value"] []
  a__law_is_integer : Addr
  d__law_is_integer : FuncData
  F__law_is_integer : Fun K "_law_is_integer" "_law_is_integer" s__law_is_integer a__law_is_integer d__law_is_integer
  m__law_is_integer : mg "_law_is_integer" = some (.ref a__law_is_integer)
  b__law_is_integer : Binds K d__law_is_integer ["value"] []
  a__law_is_item : Addr
  d__law_is_item : FuncData
  F__law_is_item : Fun K "_law_is_item" "_law_is_item" s__law_is_item a__law_is_item d__law_is_item
  m__law_is_item : mg "_law_is_item" = some (.ref a__law_is_item)
  b__law_is_item : Binds K d__law_is_item ["pairs", "value"] []
  a__law_are_items : Addr
  d__law_are_items : FuncData
  F__law_are_items : Fun K "_law_are_items" "_law_are_items" s__law_are_items a__law_are_items d__law_are_items
  m__law_are_items : mg "_law_are_items" = some (.ref a__law_are_items)
  b__law_are_items : Binds K d__law_are_items ["pairs", "value"] []
  a__law_all_outcomes : Addr
  d__law_all_outcomes : FuncData
  F__law_all_outcomes : Fun K "_law_all_outcomes" "_law_all_outcomes" s__law_all_outcomes a__law_all_outcomes d__law_all_outcomes
  m__law_all_outcomes : mg "_law_all_outcomes" = some (.ref a__law_all_outcomes)
  b__law_all_outcomes : Binds K d__law_all_outcomes ["pairs"] []
  a__law_is_row : Addr
  d__law_is_row : FuncData
  F__law_is_row : Fun K "_law_is_row" "_law_is_row" s__law_is_row a__law_is_row d__law_is_row
  m__law_is_row : mg "_law_is_row" = some (.ref a__law_is_row)
  b__law_is_row : Binds K d__law_is_row ["pairs", "value"] []
  a__law_is_refused : Addr
  d__law_is_refused : FuncData
  F__law_is_refused : Fun K "_law_is_refused" "_law_is_refused" s__law_is_refused a__law_is_refused d__law_is_refused
  m__law_is_refused : mg "_law_is_refused" = some (.ref a__law_is_refused)
  b__law_is_refused : Binds K d__law_is_refused ["call"] []
  a__law_drawn_items : Addr
  d__law_drawn_items : FuncData
  F__law_drawn_items : Fun K "_law_drawn_items" "_law_drawn_items" s__law_drawn_items a__law_drawn_items d__law_drawn_items
  m__law_drawn_items : mg "_law_drawn_items" = some (.ref a__law_drawn_items)
  b__law_drawn_items : Binds K d__law_drawn_items ["dice", "pairs", "words", "many"] []
  a__law_changed_item : Addr
  d__law_changed_item : FuncData
  F__law_changed_item : Fun K "_law_changed_item" "_law_changed_item" s__law_changed_item a__law_changed_item d__law_changed_item
  m__law_changed_item : mg "_law_changed_item" = some (.ref a__law_changed_item)
  b__law_changed_item : Binds K d__law_changed_item ["dice", "pairs", "item"] []
  a__law_changed_row : Addr
  d__law_changed_row : FuncData
  F__law_changed_row : Fun K "_law_changed_row" "_law_changed_row" s__law_changed_row a__law_changed_row d__law_changed_row
  m__law_changed_row : mg "_law_changed_row" = some (.ref a__law_changed_row)
  b__law_changed_row : Binds K d__law_changed_row ["dice", "row", "more"] []
  a__law_right : Addr
  d__law_right : FuncData
  F__law_right : Fun K "_law_right" "_law_right" s__law_right a__law_right d__law_right
  m__law_right : mg "_law_right" = some (.ref a__law_right)
  b__law_right : Binds K d__law_right ["dice"] []
  co__law_right : Addr
  tb__law_right : Addr
  l__law_right : ∃ kV doc pm an ct, d__law_right = PySem.W.fnOf "_law_right" "_law_right" (defArgs s__law_right) (defBody s__law_right) (defScope s__law_right) .none kV doc pm an (.ref co__law_right) ct
  a_law : Addr
  d_law : FuncData
  F_law : Fun K "law" "law" s_law a_law d_law
  m_law : mg "law" = some (.ref a_law)
  b_law : Binds K d_law ["script"] []
  a_Book___init__ : Addr
  d_Book___init__ : FuncData
  F_Book___init__ : Fun K "__init__" "Book.__init__" s_Book___init__ a_Book___init__ d_Book___init__
  a_Book_of : Addr
  d_Book_of : FuncData
  F_Book_of : Fun K "of" "Book.of" s_Book_of a_Book_of d_Book_of
  b_Book_of : Binds K d_Book_of ["cls", "commands"] []
  a_Book_commands : Addr
  d_Book_commands : FuncData
  F_Book_commands : Fun K "commands" "Book.commands" s_Book_commands a_Book_commands d_Book_commands
  b_Book_commands : Binds K d_Book_commands ["self"] []
  a_Book_takes : Addr
  d_Book_takes : FuncData
  F_Book_takes : Fun K "takes" "Book.takes" s_Book_takes a_Book_takes d_Book_takes
  b_Book_takes : Binds K d_Book_takes ["self", "command"] []
  a_Book_answers : Addr
  d_Book_answers : FuncData
  F_Book_answers : Fun K "answers" "Book.answers" s_Book_answers a_Book_answers d_Book_answers
  b_Book_answers : Binds K d_Book_answers ["self", "command"] []
  a_Book_outcomes : Addr
  d_Book_outcomes : FuncData
  F_Book_outcomes : Fun K "outcomes" "Book.outcomes" s_Book_outcomes a_Book_outcomes d_Book_outcomes
  b_Book_outcomes : Binds K d_Book_outcomes ["self", "command"] []
  a_Book_without : Addr
  d_Book_without : FuncData
  F_Book_without : Fun K "without" "Book.without" s_Book_without a_Book_without d_Book_without
  b_Book_without : Binds K d_Book_without ["self", "command"] []
  a_Book_is_within : Addr
  d_Book_is_within : FuncData
  F_Book_is_within : Fun K "is_within" "Book.is_within" s_Book_is_within a_Book_is_within d_Book_is_within
  b_Book_is_within : Binds K d_Book_is_within ["self", "other"] []
  a_Book___or__ : Addr
  d_Book___or__ : FuncData
  F_Book___or__ : Fun K "__or__" "Book.__or__" s_Book___or__ a_Book___or__ d_Book___or__
  b_Book___or__ : Binds K d_Book___or__ ["self", "other"] []
  a_Book___getitem__ : Addr
  d_Book___getitem__ : FuncData
  F_Book___getitem__ : Fun K "__getitem__" "Book.__getitem__" s_Book___getitem__ a_Book___getitem__ d_Book___getitem__
  b_Book___getitem__ : Binds K d_Book___getitem__ ["self", "command"] []
  a_Book___contains__ : Addr
  d_Book___contains__ : FuncData
  F_Book___contains__ : Fun K "__contains__" "Book.__contains__" s_Book___contains__ a_Book___contains__ d_Book___contains__
  b_Book___contains__ : Binds K d_Book___contains__ ["self", "value"] []
  a_Book___iter__ : Addr
  d_Book___iter__ : FuncData
  F_Book___iter__ : Fun K "__iter__" "Book.__iter__" s_Book___iter__ a_Book___iter__ d_Book___iter__
  b_Book___iter__ : Binds K d_Book___iter__ ["self"] []
  a_Book___len__ : Addr
  d_Book___len__ : FuncData
  F_Book___len__ : Fun K "__len__" "Book.__len__" s_Book___len__ a_Book___len__ d_Book___len__
  b_Book___len__ : Binds K d_Book___len__ ["self"] []
  a_Book___eq__ : Addr
  d_Book___eq__ : FuncData
  F_Book___eq__ : Fun K "__eq__" "Book.__eq__" s_Book___eq__ a_Book___eq__ d_Book___eq__
  b_Book___eq__ : Binds K d_Book___eq__ ["self", "other"] []
  a_Book___str__ : Addr
  d_Book___str__ : FuncData
  F_Book___str__ : Fun K "__str__" "Book.__str__" s_Book___str__ a_Book___str__ d_Book___str__
  b_Book___str__ : Binds K d_Book___str__ ["self"] []
  c_Book : Addr
  m_Book : mg "Book" = some (.ref c_Book)
  o_Book : OwnC K c_Book (.type "type")
  n_Book__pairs : NoAttr K c_Book "_pairs"
  n_Book__outcomes : NoAttr K c_Book "_outcomes"
  N_Book : DunNe K c_Book
  B_Book___or__ : BinB K c_Book "or"
  k_Book : Mk K c_Book a_Book___init__
  p_Book_of : Addr
  P_Book_of : ClX.CMet K c_Book (.type "type") "of" p_Book_of a_Book_of
  p_Book_commands : Addr
  P_Book_commands : PropOf K c_Book "commands" p_Book_commands a_Book_commands
  M_Book_takes : Meth K c_Book "takes" a_Book_takes
  M_Book_answers : Meth K c_Book "answers" a_Book_answers
  M_Book_outcomes : Meth K c_Book "outcomes" a_Book_outcomes
  M_Book_without : Meth K c_Book "without" a_Book_without
  M_Book_is_within : Meth K c_Book "is_within" a_Book_is_within
  D_Book___or__ : Dun K c_Book "__or__" a_Book___or__
  D_Book___getitem__ : Dun K c_Book "__getitem__" a_Book___getitem__
  D_Book___contains__ : Dun K c_Book "__contains__" a_Book___contains__
  D_Book___iter__ : Dun K c_Book "__iter__" a_Book___iter__
  D_Book___len__ : Dun K c_Book "__len__" a_Book___len__
  D_Book___eq__ : Dun K c_Book "__eq__" a_Book___eq__
  D_Book___str__ : Dun K c_Book "__str__" a_Book___str__
  z_abs : mg "abs" = none
  z_all : mg "all" = none
  z_any : mg "any" = none
  z_bool : mg "bool" = none
  z_dict : mg "dict" = none
  z_enumerate : mg "enumerate" = none
  z_int : mg "int" = none
  z_isinstance : mg "isinstance" = none
  z_iter : mg "iter" = none
  z_len : mg "len" = none
  z_list : mg "list" = none
  z_max : mg "max" = none
  z_min : mg "min" = none
  z_range : mg "range" = none
  z_repr : mg "repr" = none
  z_sorted : mg "sorted" = none
  z_str : mg "str" = none
  z_tuple : mg "tuple" = none
  z_type : mg "type" = none
  c_AheadError : Addr
  e_AheadError : Own0 K mg "AheadError" c_AheadError "ValueError.__new__" tlVE
  c_InvalidBook : Addr
  e_InvalidBook : Own0 K mg "InvalidBook" c_InvalidBook "ValueError.__new__" tlVE
  c_InvalidOperation : Addr
  e_InvalidOperation : Own0 K mg "InvalidOperation" c_InvalidOperation "ValueError.__new__" tlVE
  c_UnknownName : Addr
  i_UnknownName : Addr
  d_UnknownName : FuncData
  e_UnknownName : Own1 prog0 K mg "UnknownName" c_UnknownName i_UnknownName d_UnknownName "KeyError" "LookupError.__new__" "KeyError.__init__" tlKE "UnknownName.__init__" "self" "name" "name" s_UnknownName_init
  tabC : isTab K [c_AheadError, c_InvalidBook, c_InvalidOperation, c_UnknownName] [.ref c_AheadError, .ref c_InvalidBook, .ref c_InvalidOperation, .ref c_UnknownName] = [[some true, some false, some false, some false], [some true, some true, some false, some false], [some true, some false, some true, some false], [some false, some false, some false, some true]]
  tabE : exTab K [c_AheadError, c_InvalidBook, c_InvalidOperation, c_UnknownName] = [[some true, some false, some false, some false], [some true, some true, some false, some false], [some true, some false, some true, some false], [some false, some false, some false, some true]]
  tabB : isTab K [c_AheadError, c_InvalidBook, c_InvalidOperation, c_UnknownName] [.type "ValueError", .type "KeyError"] = [[some true, some false], [some true, some false], [some true, some false], [some false, some true]]
  t_MAX_LETTERS : Tok
  m_MAX_LETTERS : mg "MAX_LETTERS" = some (.int 8 t_MAX_LETTERS)
  a_RESERVED : Addr
  m_RESERVED : mg "RESERVED" = some (.ref a_RESERVED)
  q_RESERVED : ∀ H, SqT K H a_RESERVED [.str "failed", .str "kept", .str "skipped", .str "undone"]
  t_MAX_COMMANDS : Tok
  m_MAX_COMMANDS : mg "MAX_COMMANDS" = some (.int 6 t_MAX_COMMANDS)
  t_MAX_TAKES : Tok
  m_MAX_TAKES : mg "MAX_TAKES" = some (.int 2 t_MAX_TAKES)
  t_MAX_ANSWERS : Tok
  m_MAX_ANSWERS : mg "MAX_ANSWERS" = some (.int 3 t_MAX_ANSWERS)
  a_MARK : Addr
  m_MARK : mg "MARK" = some (.ref a_MARK)
  q_MARK : ∀ H, SqT K H a_MARK [.str "mark"]
theorem Txt.r_MAX_LETTERS {K : PySem.W.Frag} {mg : Str → Option Value} (T : Txt K mg) : RelV (.int 8) (.int 8 T.t_MAX_LETTERS) := ⟨_, rfl⟩
theorem Txt.r_RESERVED {K : PySem.W.Frag} {mg : Str → Option Value} (T : Txt K mg) : RelV (.ref T.a_RESERVED) (.ref T.a_RESERVED) := rfl
theorem Txt.r_MAX_COMMANDS {K : PySem.W.Frag} {mg : Str → Option Value} (T : Txt K mg) : RelV (.int 6) (.int 6 T.t_MAX_COMMANDS) := ⟨_, rfl⟩
theorem Txt.r_MAX_TAKES {K : PySem.W.Frag} {mg : Str → Option Value} (T : Txt K mg) : RelV (.int 2) (.int 2 T.t_MAX_TAKES) := ⟨_, rfl⟩
theorem Txt.r_MAX_ANSWERS {K : PySem.W.Frag} {mg : Str → Option Value} (T : Txt K mg) : RelV (.int 3) (.int 3 T.t_MAX_ANSWERS) := ⟨_, rfl⟩
theorem Txt.r_MARK {K : PySem.W.Frag} {mg : Str → Option Value} (T : Txt K mg) : RelV (.ref T.a_MARK) (.ref T.a_MARK) := rfl
def Txt.tabs {K : PySem.W.Frag} {mg : Str → Option Value} (T : Txt K mg) : List (Addr × Str) := [(T.tb__law_right, ((("_law_right" : Str) ++ ".<locals>.") ++ "<lambda>"))]
def Txt.cot {K : PySem.W.Frag} {mg : Str → Option Value} (T : Txt K mg) : List (Addr × Addr) := [(T.co__law_right, T.tb__law_right)]
theorem Txt.hin__law_right {K : PySem.W.Frag} {mg : Str → Option Value} (T : Txt K mg) : (T.tb__law_right, ((("_law_right" : Str) ++ ".<locals>.") ++ "<lambda>")) ∈ T.tabs := by
  unfold Txt.tabs
  simp
theorem Txt.hun__law_right {K : PySem.W.Frag} {mg : Str → Option Value} (T : Txt K mg) : ∀ p ∈ T.tabs, p.1 = T.tb__law_right → p.2 = ((("_law_right" : Str) ++ ".<locals>.") ++ "<lambda>") := by
  intro p hp e
  unfold Txt.tabs at hp
  simp only [List.mem_cons, List.not_mem_nil, or_false] at hp
  rcases hp with rfl
  · rfl
/-! ### names, in plain terms -/
def small (c : Nat) : Bool := decide (97 ≤ c) && decide (c ≤ 122)
def nameB (s : Str) : Bool := decide (1 ≤ s.length) && decide (s.length ≤ 8) && s.cps.toList.all small
def reserved : List Str := ["failed", "kept", "skipped", "undone"]
def answerB (s : Str) : Bool := nameB s && !(reserved.contains s)
section
variable {P : Program} {w : World} {K : PySem.W.Frag} {mg : Str → Option Value} {base : Heap}
/-- told of a value: for a text f, for another value no -/
def sp_told (K : PySem.W.Frag) (f : Str → Bool) : Sp := fun vs H Q _ => ∃ x : V, vs = [x] ∧ ((∃ s, x = .str s ∧ Txt1 s ∧ ∀ H', Same H H' → Q (.bl (f s)) H') ∨ (NotStr K H x ∧ ∀ H', Same H H' → Q (.bl false) H'))
abbrev sp_is_name (K : PySem.W.Frag) : Sp := sp_told K nameB
theorem txt_len {s : Str} (h : Txt1 s) : s.length ≤ sizeLine := by
  have := h.1
  rw [sizeLine_eq]
  omega
theorem ok_is_name (T : Txt K mg) : FnG P w K mg base CX0 1 T.a_is_name T.d_is_name ["value"] (sp_is_name K) := by
  refine okG T.F_is_name sc_is_name (fun vs H Q E h => ?_) (fun cdv A fs s H vs Q E hr h => ?_)
  · obtain ⟨x, rfl, _⟩ := h
    rfl
  obtain ⟨x, rfl, k⟩ := h
  have nd := sc_is_name.nd
  refine ⟨_, ((pss_cons (ps_if (PW.pt (pw_or (pt_not (pt_val (pe_callB call_isi (by rfl) T.z_isinstance (by decide +kernel) (pa_cons (pv 0) (pa_cons (pe_tyV (n := "str") (by rfl) T.z_str (by decide +kernel)) pa_nil))))) (pw_or1 (pt_not (pt_chain op_le op_le pe_int (pe_callB c_len (by rfl) T.z_len (by decide +kernel) (pa_cons (pv 0) pa_nil)) (pe_glob rfl T.m_MAX_LETTERS T.r_MAX_LETTERS)))))) (pss_one (ps_ret pe_bl)) pss_nil)
  (pss_one (ps_ret (pe_and (pe_m0 PySem.F.slot_str_isascii PySem.F.type_str_isascii mt_isascii (pv 0)) (pe_and (pe_m0 PySem.F.slot_str_isalpha PySem.F.type_str_isalpha mt_isalpha (pv 0)) (pe_one (pe_m0 PySem.F.slot_str_islower PySem.F.type_str_islower mt_islower (pv 0))))))))), ?_⟩
  walk_at "s"
  rcases k with ⟨z, rfl, hz, k⟩ | ⟨hn, k⟩
  · refine l_isStr ?_
    have hl := txt_len hz
    have h4 := hz.1
    walk_at "s"
    refine i_f rfl ?_
    walk_at "s"
    refine i_dec (fun c1 => ?_) (fun c1 => ?_)
    · walk_at "s"
      refine i_b (fun c2 => ?_) (fun c2 => ?_)
      · have n8 : ¬ ((z.length : Int) ≤ 8) := by simpa using c2
        walk_at "s"
        have e : nameB z = false := by
          unfold nameB
          rw [decide_eq_false (show ¬ z.length ≤ 8 by omega), Bool.and_false, Bool.false_and]
        have q := k H (Same.refl H)
        rw [e] at q
        exact q
      · have n8 : ((z.length : Int) ≤ 8) := by simpa using c2
        have e : nameB z = z.cps.toList.all small := by
          unfold nameB
          rw [decide_eq_true (show 1 ≤ z.length by omega), decide_eq_true (show z.length ≤ 8 by omega), Bool.true_and, Bool.true_and]
        have e2 : (Txt.isalpha z && Txt.islower z) = z.cps.toList.all small := small_told hz.2 (by omega)
        have q := k H (Same.refl H)
        rw [e, ← e2] at q
        walk_at "s"
        refine i_t (isascii_of hz.2) ?_
        walk_at "s"
        refine i_b (fun a1 => ?_) (fun a1 => ?_)
        · rw [a1, Bool.true_and] at q
          walk_at "s"
          exact q
        · rw [a1, Bool.false_and] at q
          exact q
    · walk_at "s"
      refine i_t rfl ?_
      walk_at "s"
      have e : nameB z = false := by
        unfold nameB
        rw [decide_eq_false (show ¬ 1 ≤ z.length by omega), Bool.false_and, Bool.false_and]
      have q := k H (Same.refl H)
      rw [e] at q
      exact q
  · refine l_notStr hn ?_
    walk_at "s"
    refine i_t rfl ?_
    walk_at "s"
    exact k H (Same.refl H)
end
section
variable {P : Program} {w : World} {K : PySem.W.Frag} {mg : Str → Option Value} {base : Heap}
def answerB1 (s : Str) : Bool := nameB s && !(reserved.any fun y => y == s)
theorem in_reserved (s : Str) : inV (.str s) (reserved.map V.str) = reserved.any fun y => y == s := by
  unfold inV
  rw [List.any_map]
  rfl
theorem all_flat (l : List Str) : (l.map V.str).all flatV = true := by
  rw [List.all_map, List.all_eq_true]
  intro _ _
  rfl
theorem l_ninR {p : Addr} {s : Str} {H : Hp} {Q : VK} (h : SqT K H p (reserved.map V.str)) (q : Q (.bl (!(reserved.any fun y => y == s))) H) : rIn K true (.str s) (.ref p) H Q :=
  ⟨p, _, rfl, Or.inr h, rfl, all_flat _, by rw [if_pos rfl, in_reserved]; exact q⟩
theorem ok_is_answer (T : Txt K mg) : FnG P w K mg base CX0 2 T.a_is_answer T.d_is_answer ["value"] (sp_told K answerB1) := by
  have G_is_name : FnG P w K mg base CX0 1 T.a_is_name T.d_is_name ["value"] (sp_is_name K) := ok_is_name T
  refine okG T.F_is_answer sc_is_answer (fun vs H Q E h => ?_) (fun cdv A fs s H vs Q E hr h => ?_)
  · obtain ⟨x, rfl, _⟩ := h
    rfl
  obtain ⟨x, rfl, k⟩ := h
  have nd := sc_is_answer.nd
  refine ⟨_, ((pss_one (ps_ret (pe_and (pe_callG G_is_name (hr.down (by decide)) rfl T.m_is_name T.F_is_name.kp T.b_is_name .nil pass0 (pa_cons (pv 0) pa_nil)) (pe_one (pe_cmpR (show OpR _ _ (rIn K true) from op_notIn_seq) (pv 0) (pe_glob rfl T.m_RESERVED T.r_RESERVED) (by rfl))))))), ?_⟩
  walk_at "s"
  rcases k with ⟨z, rfl, hz, k⟩ | ⟨hn, k⟩
  · refine ⟨_, rfl, Or.inl ⟨z, rfl, hz, fun G sg => ?_⟩⟩
    refine l_bl (i_b (fun e => ?_) (fun e => ?_))
    · walk_at "s"
      refine l_ninR (T.q_RESERVED G) ?_
      have q := k G sg
      unfold answerB1 at q
      rw [e, Bool.true_and] at q
      exact q
    · have q := k G sg
      unfold answerB1 at q
      rw [e, Bool.false_and] at q
      exact q
  · exact ⟨_, rfl, Or.inr ⟨hn, fun G sg => l_bl (i_f rfl (k G sg))⟩⟩

end
/-! ### rows of names, pairs -/
def namesFrom : Str → List V → Bool
  | _, [] => true
  | last, .str s :: r => nameB s && (decide (ltS last s) && namesFrom s r)
  | _, _ :: _ => false
section
variable {P : Program} {w : World} {K : PySem.W.Frag} {mg : Str → Option Value} {base : Heap}
/-- a tuple of what are texts or no texts -/
def sp_is_names (K : PySem.W.Frag) : Sp := fun vs H Q _ => ∃ (a : Addr) (xs : List V), vs = [.ref a] ∧ H a = some (.tup xs) ∧ (∀ x ∈ xs, (∃ s, x = .str s ∧ Txt1 s) ∨ NotStr K H x) ∧ ∀ H', Same H H' → Q (.bl (namesFrom "" xs)) H'
theorem ok_is_names (T : Txt K mg) : FnG P w K mg base CX0 2 T.a_is_names T.d_is_names ["value"] (sp_is_names K) := by
  have G_is_name : FnG P w K mg base CX0 1 T.a_is_name T.d_is_name ["value"] (sp_is_name K) := ok_is_name T
  refine okG T.F_is_names sc_is_names (fun vs H Q E h => ?_) (fun cdv A fs s H vs Q E hr h => ?_)
  · obtain ⟨a, xs, rfl, _⟩ := h
    rfl
  obtain ⟨a, xs, rfl, ea, hx, k⟩ := h
  have nd := sc_is_names.nd
  have HP := @PassesOwn.never
  refine ⟨_, ((pss_cons (ps_if (pt_not (pt_val (pe_callB call_isi (by rfl) T.z_isinstance (by decide +kernel) (pa_cons (pv 0) (pa_cons (pe_tyV (n := "tuple") (by rfl) T.z_tuple (by decide +kernel)) pa_nil))))) (pss_one (ps_ret pe_bl)) pss_nil)
  (pss_cons (ps_set (i := 1) nd rfl (Or.inl rfl) pe_str)
  (pss_cons (ps_for HP rfl (pi_tup (pv 0)) (pg_name (i := 2) nd rfl (Or.inl rfl)) (pss_cons (ps_if (PW.pt (pw_or (pt_not (pt_val (pe_callG G_is_name (hr.down (by decide)) rfl T.m_is_name T.F_is_name.kp T.b_is_name .nil pass0 (pa_cons (pv 2) pa_nil)))) (pw_or1 (pt_cmpR o_leS (pv 2) (pv 1) (nomark _))))) (pss_one (ps_ret pe_bl)) pss_nil)
  (pss_one (ps_set (i := 1) nd rfl (Or.inl rfl) (pv 2)))))
  (pss_one (ps_ret pe_bl)))))), ?_⟩
  walk_at "s"
  refine l_isTup ea ?_
  walk_at "s"
  refine i_f rfl ?_
  walk_at "s"
  refine l_forT (tup_at ea) (fun i τ G => Same H G ∧ ∃ last z, τ = [some (.ref a), some (.str last), z] ∧ namesFrom last (xs.drop i) = namesFrom "" xs) ⟨Same.refl H, "", none, rfl, rfl⟩ (fun i τ G _ p => sqt_same p.1 (tup_at ea)) (fun i x τ G hi p => ?_) (fun τ G p => ?_)
  · obtain ⟨sg, last, z, rfl, e⟩ := p
    have hd : xs.drop i = x :: xs.drop (i + 1) := by
      obtain ⟨h1, h2⟩ := List.getElem?_eq_some_iff.mp hi
      rw [← h2]
      exact List.drop_eq_getElem_cons h1
    rw [hd] at e
    walk_at "s"
    rcases hx x (List.mem_of_getElem? hi) with ⟨s, rfl, hs⟩ | ns
    · refine ⟨_, rfl, Or.inl ⟨s, rfl, hs, fun J sj => ?_⟩⟩
      refine l_bl ?_
      have e : (nameB s && (decide (ltS last s) && namesFrom s (xs.drop (i + 1)))) = namesFrom "" xs := e
      cases hn : nameB s with
      | false =>
        rw [hn] at e
        refine i_t rfl ?_
        walk_at "s"
        have q := k J (sg.trans sj)
        rw [← e] at q
        exact q
      | true =>
        rw [hn, Bool.true_and] at e
        refine i_f rfl ?_
        walk_at "s"
        rw [dec_lt]
        cases hl : decide (ltS last s) with
        | false =>
          rw [hl] at e
          refine i_t rfl ?_
          walk_at "s"
          have q := k J (sg.trans sj)
          rw [← e] at q
          exact q
        | true =>
          rw [hl, Bool.true_and] at e
          refine i_f rfl ?_
          walk_at "s"
          exact ⟨sg.trans sj, s, _, rfl, e⟩
    · refine ⟨_, rfl, Or.inr ⟨NotStr.same sg ns, fun J sj => ?_⟩⟩
      refine l_bl (i_t rfl ?_)
      walk_at "s"
      have e2 : namesFrom last (x :: xs.drop (i + 1)) = false := by
        cases x with
        | str s =>
          exact ns.no.elim
        | _ => rfl
      have q := k J (sg.trans sj)
      rw [← e, e2] at q
      exact q
  · obtain ⟨sg, last, z, rfl, e⟩ := p
    rw [List.drop_length] at e
    have q := k G sg
    rw [← e] at q
    walk_at "s"
    exact q
end
section
variable {P : Program} {w : World} {K : PySem.W.Frag} {mg : Str → Option Value} {base : Heap}
/-- an int that counts -/
def sp_count : Sp := fun vs H Q _ => ∃ i : Int, vs = [.int i] ∧ Q (.bl (decide (0 ≤ i))) H
theorem ok_is_count (T : Txt K mg) : FnG P w K mg base CX0 1 T.a_is_count T.d_is_count ["value"] sp_count := by
  refine okG T.F_is_count sc_is_count (fun vs H Q E h => ?_) (fun cdv A fs s H vs Q E hr h => ?_)
  · obtain ⟨i, rfl, _⟩ := h
    rfl
  obtain ⟨i, rfl, k⟩ := h
  have nd := sc_is_count.nd
  refine ⟨_, ((pss_one (ps_ret (pe_and (pe_cmpR op_isT (pe_callTy call_type1 (by rfl) T.z_type (by decide +kernel) (pa_cons (pv 0) pa_nil)) (pe_tyV (n := "int") (by rfl) T.z_int (by decide +kernel)) (nomark _)) (pe_one (pe_cmpR op_ge (pv 0) pe_int (nomark _))))))), ?_⟩
  walk_at "s"
  refine l_typ (.int i) ?_
  walk_at "s"
  refine l_isT (l_bl (i_t rfl ?_))
  walk_at "s"
  exact k
/-- what a command takes, and its answers -/
def GoodP (t : Nat) (as : List Str) : Prop := t ≤ 2 ∧ Asc as ∧ 1 ≤ as.length ∧ as.length ≤ 3 ∧ ∀ s ∈ as, answerB1 s = true
def PairV (H : Hp) (v : V) (t : Nat) (as : List Str) : Prop := ∃ pr an, v = .ref pr ∧ H pr = some (.tup [.int t, .ref an]) ∧ H an = some (.tup (as.map V.str))
theorem name_txt {s : Str} (h : nameB s = true) : Txt1 s := by
  unfold nameB at h
  simp only [Bool.and_eq_true, decide_eq_true_eq, List.all_eq_true] at h
  refine ⟨by omega, fun c hc => ?_⟩
  have := h.2 c hc
  unfold small at this
  simp only [Bool.and_eq_true, decide_eq_true_eq] at this
  omega
theorem answer_name {s : Str} (h : answerB1 s = true) : nameB s = true := by
  unfold answerB1 at h
  rw [Bool.and_eq_true] at h
  exact h.1
theorem answer_free {s : Str} (h : answerB1 s = true) : s ∉ reserved := fun m => by
  unfold answerB1 at h
  rw [Bool.and_eq_true, Bool.not_eq_true', List.any_eq_false] at h
  exact h.2 s m (beq_self_eq_true s)
theorem names_asc : ∀ {l : List Str} {p : Str}, (∀ s ∈ l, nameB s = true) → Asc (p :: l) → namesFrom p (l.map V.str) = true
  | [], _, _, _ => rfl
  | s :: r, p, h, a => by
    have a1 := List.pairwise_cons.mp a
    show (nameB s && (decide (ltS p s) && namesFrom s (r.map V.str))) = true
    rw [h s List.mem_cons_self, decide_eq_true (a1.1 s List.mem_cons_self), names_asc (fun x hx => h x (List.mem_cons_of_mem _ hx)) a1.2]
    rfl
theorem ltS_empty {s : Str} (h : 1 ≤ s.length) : ltS "" s := by
  show ltCps [] s.cps.toList = true
  cases e : s.cps.toList with
  | nil =>
    have l : s.cps.toList.length = 0 := by rw [e]; rfl
    rw [Array.length_toList] at l
    have h : 1 ≤ s.cps.size := h
    omega
  | cons a r => rfl
theorem names_ok {l : List Str} (h : ∀ s ∈ l, nameB s = true) (a : Asc l) : namesFrom "" (l.map V.str) = true := names_asc h (List.pairwise_cons.mpr ⟨fun s hs => ltS_empty (by
  have := h s hs
  unfold nameB at this
  simp only [Bool.and_eq_true, decide_eq_true_eq] at this
  omega), a⟩)
theorem at0 {a b : V} : atI [a, b] 0 = some a := rfl
theorem at1 {a b : V} : atI [a, b] 1 = some b := rfl
def sp_pair : Sp := fun vs H Q _ => ∃ (v : V) (t : Nat) (as : List Str), vs = [v] ∧ PairV H v t as ∧ GoodP t as ∧ ∀ H', Same H H' → Q (.bl true) H'
theorem ok_is_pair (T : Txt K mg) : FnG P w K mg base CX0 3 T.a_is_pair T.d_is_pair ["value"] sp_pair := by
  have G_is_count : FnG P w K mg base CX0 1 T.a_is_count T.d_is_count ["value"] sp_count := ok_is_count T
  have G_is_names : FnG P w K mg base CX0 2 T.a_is_names T.d_is_names ["value"] (sp_is_names K) := ok_is_names T
  refine okG T.F_is_pair sc_is_pair (fun vs H Q E h => ?_) (fun cdv A fs s H vs Q E hr h => ?_)
  · obtain ⟨v, t, as, rfl, _⟩ := h
    rfl
  obtain ⟨v, t, as, rfl, ⟨pr, an, rfl, e1, e2⟩, ⟨g1, g2, g3, g4, g5⟩, k⟩ := h
  have nd := sc_is_pair.nd
  refine ⟨_, ((pss_cons (ps_if (PW.pt (pw_or (pt_not (pt_val (pe_callB call_isi (by rfl) T.z_isinstance (by decide +kernel) (pa_cons (pv 0) (pa_cons (pe_tyV (n := "tuple") (by rfl) T.z_tuple (by decide +kernel)) pa_nil))))) (pw_or1 (pt_cmpR op_ne (pe_callB c_len (by rfl) T.z_len (by decide +kernel) (pa_cons (pv 0) pa_nil)) pe_int (nomark _))))) (pss_one (ps_ret pe_bl)) pss_nil)
  (pss_cons (ps_asg (pv 0) (pg_tup (by rfl) (pgs_cons (pg_name (i := 1) nd rfl (Or.inl rfl)) (pgs_cons (pg_name (i := 2) nd rfl (Or.inl rfl)) pgs_nil))))
  (pss_cons (ps_if (PW.pt (pw_or (pt_not (pt_val (pe_callG G_is_count (hr.down (by decide)) rfl T.m_is_count T.F_is_count.kp T.b_is_count .nil pass0 (pa_cons (pv 1) pa_nil)))) (pw_or1 (pt_cmpR op_gt (pv 1) (pe_glob rfl T.m_MAX_TAKES T.r_MAX_TAKES) (nomark _))))) (pss_one (ps_ret pe_bl)) pss_nil)
  (pss_cons (ps_if (PW.pt (pw_or (pt_not (pt_val (pe_callG G_is_names (hr.down (by decide)) rfl T.m_is_names T.F_is_names.kp T.b_is_names .nil pass0 (pa_cons (pv 2) pa_nil)))) (pw_or1 (pt_not (pt_chain op_le op_le pe_int (pe_callB c_len (by rfl) T.z_len (by decide +kernel) (pa_cons (pv 2) pa_nil)) (pe_glob rfl T.m_MAX_ANSWERS T.r_MAX_ANSWERS)))))) (pss_one (ps_ret pe_bl)) pss_nil)
  (pss_one (ps_ret (pe_not (pe_callB (cr_any rfl) (by rfl) T.z_any (by decide +kernel) (pa_cons (pe_lc (own := [("name", 3)]) rfl nd (pi_tup (pv 2)) (blkOk_by (own := [("name", 3)]) (N := ["value", "takes", "answers", "name"]) (sc := defScope s_is_pair) (by decide +kernel)) (fun _ _ _ _ _ => pg_name (i := 3) nd rfl (Or.inl rfl)) (fun _ _ _ _ _ => pts_nil) (fun _ _ _ _ _ => by exact (pe_cmpR (show OpR _ _ (rIn K false) from op_in_seq) (pv 3) (pe_glob rfl T.m_RESERVED T.r_RESERVED) (by rfl)))) pa_nil)))))))))), ?_⟩
  walk_at "s"
  refine l_isTup e1 ?_
  walk_at "s"
  refine i_f rfl ?_
  walk_at "s"
  refine l_lenT (tup_at e1) ?_
  walk_at "s"
  refine i_f rfl ?_
  walk_at "s"
  refine l_gtup (tup_at e1) rfl ?_
  walk_at "s"
  refine ⟨_, rfl, ?_⟩
  walk_at "s"
  refine i_f (by rw [decide_eq_true (show (0 : Int) ≤ (t : Int) by omega)]; rfl) ?_
  walk_at "s"
  refine i_f (decide_eq_false (by omega)) ?_
  walk_at "s"
  refine ⟨an, _, rfl, e2, fun x hx => ?_, fun G sg => ?_⟩
  · obtain ⟨s, hs, rfl⟩ := List.mem_map.mp hx
    exact Or.inl ⟨s, rfl, name_txt (answer_name (g5 s hs))⟩
  have e2g := sg _ _ e2
  rw [names_ok (fun s hs => answer_name (g5 s hs)) g2]
  refine l_bl (i_f rfl ?_)
  walk_at "s"
  refine l_lenT (tup_at e2g) ?_
  rw [List.length_map]
  walk_at "s"
  refine i_t (decide_eq_true (by omega)) ?_
  walk_at "s"
  refine i_f (by rw [decide_eq_true (show ((as.length : Nat) : Int) ≤ 3 by omega)]; rfl) ?_
  walk_at "s"
  refine l_lcT (tup_at e2g) (fun _ => true) (fun _ => .bl false) (by rw [List.length_map]; omega) (fun x _ J _ R r => r J (Same.refl J)) (fun x hx _ J _ R r => ?_) (fun D J _ sj ej => ?_)
  · obtain ⟨s, hs, rfl⟩ := List.mem_map.mp hx
    refine s_op (s_var rfl (s_c (l_inR (l := reserved) (T.q_RESERVED J) ?_)))
    rw [decide_eq_false (answer_free (g5 s hs))]
    exact r J (Same.refl J)
  · have e3 : ((as.map V.str).filter fun _ => true).map (fun _ => V.bl false) = (as.map fun _ => false).map V.bl := by
      rw [List.filter_eq_self.mpr (fun _ _ => rfl), List.map_map, List.map_map]
      rfl
    rw [e3] at ej
    walk_at "s"
    refine l_any (SqL.of ej) ?_
    walk_at "s"
    have e4 : ((as.map fun _ => false).any id) = false := by
      rw [List.any_map, List.any_eq_false]
      intro _ _ z
      cases z
    rw [e4]
    exact k J (sg.trans sj)
end
/-! ### books, in plain terms -/
abbrev PB := List (Str × Nat × List Str)
def outs (as : List Str) : List Str := sortS (as ++ [("failed" : Str)])
def OutV (H : Hp) (v : V) (as : List Str) : Prop := ∃ t, v = .ref t ∧ H t = some (.tup ((outs as).map V.str))
def RowsAt (H : Hp) : List (Key × V) → PB → Prop := Paired fun kv x => kv.1 = .inr x.1 ∧ PairV H kv.2 x.2.1 x.2.2
def OutsAt (H : Hp) : List (Key × V) → PB → Prop := Paired fun kv x => kv.1 = .inr x.1 ∧ OutV H kv.2 x.2.2
/-- commands of a book in any order -/
structure RawB (b : PB) : Prop where
  nd : (b.map (·.1)).Nodup
  nm : ∀ x ∈ b, answerB1 x.1 = true
  pr : ∀ x ∈ b, GoodP x.2.1 x.2.2
  n1 : 1 ≤ b.length
  n6 : b.length ≤ 6
structure GoodB (b : PB) : Prop where
  raw : RawB b
  asc : Asc (b.map (·.1))
section
variable {H G : Hp} {v : V} {t : Nat} {as : List Str} {kvs ws : List (Key × V)} {b c : PB}
theorem pairV_bears : Bears fun H v => PairV H v t as := ⟨fun _ _ _ s ⟨pr, an, e, h1, h2⟩ => ⟨pr, an, e, s _ _ h1, s _ _ h2⟩, fun G D o o' w hD no ⟨pr, an, e, h1, h2⟩ => by
  have n1 : pr ≠ D := fun z => by
    rw [z, hD] at h1
    exact no _ (Option.some.inj h1)
  have n2 : an ≠ D := fun z => by
    rw [z, hD] at h2
    exact no _ (Option.some.inj h2)
  exact ⟨pr, an, e, by rw [upd_ne n1]; exact h1, by rw [upd_ne n2]; exact h2⟩⟩
theorem outV_bears : Bears fun H v => OutV H v as := bears_tup _
theorem RowsAt.same (s : Same H G) (r : RowsAt H kvs b) : RowsAt G kvs b := Paired.mono (fun _ _ a => ⟨a.1, pairV_bears.same _ _ _ s a.2⟩) r
theorem OutsAt.same (s : Same H G) (r : OutsAt H kvs b) : OutsAt G kvs b := Paired.mono (fun _ _ a => ⟨a.1, outV_bears.same _ _ _ s a.2⟩) r
theorem RowsAt.set {D : Addr} {o o' : HO} (hD : H D = some o) (no : ∀ xs, o ≠ .tup xs) (r : RowsAt H kvs b) : RowsAt (upd H D o') kvs b := Paired.mono (fun _ _ a => ⟨a.1, pairV_bears.set _ _ _ _ _ hD no a.2⟩) r
theorem OutsAt.set {D : Addr} {o o' : HO} (hD : H D = some o) (no : ∀ xs, o ≠ .tup xs) (r : OutsAt H kvs b) : OutsAt (upd H D o') kvs b := Paired.mono (fun _ _ a => ⟨a.1, outV_bears.set _ _ _ _ _ hD no a.2⟩) r
theorem paired_fst {α : Type} {F : Key × V → Str × α → Prop} (hF : ∀ p q, F p q → p.1 = .inr q.1) : ∀ {l : List (Key × V)} {m : List (Str × α)}, Paired F l m → l.map (·.1) = (m.map (·.1)).map .inr
  | [], [], _ => rfl
  | [], _ :: _, h => nomatch h
  | _ :: _, [], h => nomatch h
  | _ :: _, _ :: _, .cons a t => by rw [List.map_cons, List.map_cons, List.map_cons, hF _ _ a, paired_fst hF t]
theorem RowsAt.keys (r : RowsAt H kvs b) : kvs.map (·.1) = (b.map (·.1)).map .inr := paired_fst (fun _ _ a => a.1) r
theorem OutsAt.keys (r : OutsAt H kvs b) : kvs.map (·.1) = (b.map (·.1)).map .inr := paired_fst (fun _ _ a => a.1) r
theorem RowsAt.len (r : RowsAt H kvs b) : kvs.length = b.length := Paired.length r
theorem paired_find {α : Type} {F : Key × V → Str × α → Prop} (hF : ∀ p q, F p q → p.1 = .inr q.1) : ∀ {l : List (Key × V)} {m : List (Str × α)}, Paired F l m → (m.map (·.1)).Nodup → ∀ x ∈ m, ∃ p, valV l (.inr x.1) = some p.2 ∧ F p x
  | [], [], _, _, _, hx => nomatch hx
  | [], _ :: _, h, _, _, _ => nomatch h
  | _ :: _, [], h, _, _, _ => nomatch h
  | p :: l, q :: m, .cons a t, nd, x, hx => by
    obtain ⟨n1, n2⟩ := List.nodup_cons.mp (show (q.1 :: m.map (·.1)).Nodup from nd)
    rcases List.mem_cons.mp hx with rfl | hx
    · exact ⟨p, valV_pos (hF _ _ a), a⟩
    · obtain ⟨p', e, f⟩ := paired_find hF t n2 x hx
      refine ⟨p', ?_, f⟩
      have ne : ¬ p.1 = Sum.inr x.1 := fun z => n1 (by
        have e1 := (hF _ _ a).symm.trans z
        rw [Sum.inr.inj e1]
        exact List.mem_map_of_mem hx)
      have f2 : valV (p :: l) (.inr x.1) = valV l (.inr x.1) := by simp [valV, List.find?_cons, ne]
      rw [f2]
      exact e
theorem RowsAt.find (r : RowsAt H kvs b) (nd : (b.map (·.1)).Nodup) {x : Str × Nat × List Str} (hx : x ∈ b) : ∃ v, valV kvs (.inr x.1) = some v ∧ PairV H v x.2.1 x.2.2 := by
  obtain ⟨p, e, a⟩ := paired_find (fun _ _ a => a.1) r nd x hx
  exact ⟨p.2, e, a.2⟩
theorem OutsAt.find (r : OutsAt H kvs b) (nd : (b.map (·.1)).Nodup) {x : Str × Nat × List Str} (hx : x ∈ b) : ∃ v, valV kvs (.inr x.1) = some v ∧ OutV H v x.2.2 := by
  obtain ⟨p, e, a⟩ := paired_find (fun _ _ a => a.1) r nd x hx
  exact ⟨p.2, e, a.2⟩
theorem RowsAt.none_ (r : RowsAt H kvs b) {n : Str} (h : n ∉ b.map (·.1)) : valV kvs (.inr n) = none := by
  cases e : valV kvs (.inr n) with
  | none => rfl
  | some v =>
    have m := valV_in e
    rw [r.keys] at m
    obtain ⟨n', h', e'⟩ := List.mem_map.mp m
    rw [Sum.inr.inj e'] at h'
    exact absurd h' h
theorem RowsAt.has (r : RowsAt H kvs b) {n : Str} (nd : (b.map (·.1)).Nodup) : (valV kvs (.inr n)).isSome = decide (n ∈ b.map (·.1)) := by
  by_cases h : n ∈ b.map (·.1)
  · obtain ⟨x, hx, rfl⟩ := List.mem_map.mp h
    obtain ⟨v, e, _⟩ := r.find nd hx
    rw [e, decide_eq_true h]
    rfl
  · rw [r.none_ h, decide_eq_false h]
    rfl
/-- rows whose values are those of a dict under these names -/
theorem rows_pick (r : RowsAt H kvs b) (nd : (b.map (·.1)).Nodup) : ∀ {c : PB} {ws : List (Key × V)}, (∀ x ∈ c, x ∈ b) → Paired (fun (k : Str) (w : Key × V) => w.1 = .inr k ∧ valV kvs (.inr k) = some w.2) (c.map (·.1)) ws → RowsAt H ws c
  | [], [], _, _ => .nil
  | [], _ :: _, _, h => nomatch h
  | _ :: _, [], _, h => nomatch h
  | x :: c, w :: ws, sub, .cons a t => by
    obtain ⟨v, e, p⟩ := r.find nd (sub x List.mem_cons_self)
    refine .cons ⟨a.1, ?_⟩ (rows_pick r nd (fun y hy => sub y (List.mem_cons_of_mem _ hy)) t)
    have e2 : some v = some w.2 := e.symm.trans a.2
    rw [← Option.some.inj e2]
    exact p
end
section
variable {P : Program} {w : World} {K : PySem.W.Frag} {mg : Str → Option Value} {base : Heap}
def sp_outcomes_in : Sp := fun vs H Q _ => ∃ (p : Addr) (kvs : List (Key × V)) (b : PB), vs = [.ref p] ∧ H p = some (.dK kvs) ∧ RowsAt H kvs b ∧ RawB b ∧ ∀ D G ws, H D = none → Same H G → OutsAt G ws b → G D = some (.dK ws) → Q (.ref D) G
theorem key_of (r : RowsAt H kvs b) {k : Key} (h : k ∈ kvs.map (·.1)) : ∃ x, x ∈ b ∧ k = .inr x.1 := by
  rw [r.keys] at h
  obtain ⟨n, hn, rfl⟩ := List.mem_map.mp h
  obtain ⟨x, hx, rfl⟩ := List.mem_map.mp hn
  exact ⟨x, hx, rfl⟩
theorem outs_ents {b : PB} {ks : List Key} {ws : List (Key × V)} (e : ks = (b.map (·.1)).map .inr) (en : Ents (fun k G v => ∀ x ∈ b, k = .inr x.1 → OutV G v x.2.2) H ks ws) : OutsAt H ws b := by
  suffices h : ∀ (c : PB) {ks : List Key} {ws : List (Key × V)}, (∀ x ∈ c, x ∈ b) → ks = (c.map (·.1)).map .inr → Ents (fun k G v => ∀ x ∈ b, k = .inr x.1 → OutV G v x.2.2) H ks ws → OutsAt H ws c from h b (fun _ z => z) e en
  intro c
  induction c with
  | nil =>
    intro ks ws _ e en
    subst e
    cases en
    exact .nil
  | cons x c ih =>
    intro ks ws sub e en
    subst e
    cases en with
    | cons a t => exact .cons ⟨a.1.symm, a.2 x (sub x List.mem_cons_self) rfl⟩ (ih (fun y hy => sub y (List.mem_cons_of_mem _ hy)) rfl t)
theorem ok_outcomes_in (T : Txt K mg) : FnG P w K mg base CX0 1 T.a_outcomes_in T.d_outcomes_in ["pairs"] sp_outcomes_in := by
  refine okG T.F_outcomes_in sc_outcomes_in (fun vs H Q E h => ?_) (fun cdv A fs s H vs Q E hr h => ?_)
  · obtain ⟨p, kvs, b, rfl, _⟩ := h
    rfl
  obtain ⟨p, kvs, b, rfl, ep, rows, raw, k⟩ := h
  have nd := sc_outcomes_in.nd
  refine ⟨_, ((pss_one (ps_ret (pe_lock (pe_dc (own := [("command", 1)]) rfl nd (pi_keys (pv 0)) (blkOk_by (own := [("command", 1)]) (N := ["pairs", "command"]) (sc := defScope s_outcomes_in) (by decide +kernel)) (fun _ _ _ _ _ => pg_name (i := 1) nd rfl (Or.inl rfl)) (fun _ _ _ _ _ => pts_nil) (fun _ _ _ _ _ => by exact (pv 1)) (fun _ _ _ _ _ => by exact (pe_callTy (show CallR _ _ (rTupleOf K) from c_tuple) (by rfl) T.z_tuple (by decide +kernel) (pa_cons (pe_callB (show CallR _ _ (rSortedT K) from call_sortedT) (by rfl) T.z_sorted (by decide +kernel) (pa_cons (pe_op (show OpR _ _ (rCatT K) from op_catT) (pe_ix (show IxR _ (rIxT K) from ix_tup) (pe_dget hr.hu (pv 0) (pv 1) (fun _ _ => rfl)) pe_int (fun _ _ => rfl)) (pe_tup (pa_cons pe_str pa_nil))) pa_nil)) pa_nil)))))))), ?_⟩
  walk_at "s"
  have nk : (kvs.map (·.1)).Nodup := by
    rw [rows.keys]
    exact List.pairwise_map.mpr (List.Pairwise.imp (fun n e => n (Sum.inr.inj e)) raw.nd)
  refine l_dcKp (fun od R r => s_var rfl r) ep nk (by have := rows.len; have := raw.n6; omega) (fun _ => true) (fun k G v => ∀ x ∈ b, k = .inr x.1 → OutV G v x.2.2) (fun k => ⟨fun G G' u s h x hx e => outV_bears.same _ _ _ s (h x hx e), fun G D o o' u hD no h x hx e => outV_bears.set _ _ _ _ _ hD no (h x hx e)⟩)
    (fun od k hk G s R r => s_yes (r G (Same.refl G))) (fun od k hk _ G s R r => s_var rfl (r G (Same.refl G))) (fun od k hk _ G s R r => ?_) (fun D G ws hD s en e => k D G ws hD s (outs_ents ?_ en) e)
  · obtain ⟨x, hx, rfl⟩ := key_of rows hk
    obtain ⟨v, ev, pr, an, rfl, h1, h2⟩ := rows.find raw.nd hx
    obtain ⟨t, as⟩ := (⟨x.2.1, x.2.2⟩ : Nat × List Str)
    have gp := raw.pr x hx
    have l1 : G pr = some (.tup [.int x.2.1, .ref an]) := lock_same s h1 (fun z => by rw [z, ep] at h1; cases h1)
    have l2 : G an = some (.tup (x.2.2.map V.str)) := lock_same s h2 (fun z => by rw [z, ep] at h2; cases h2)
    walk_at "s"
    refine ⟨p, .ref pr, rfl, ?_, ?_⟩
    · rw [← ev]
      exact dgetF (at_lock s)
    walk_at "s"
    refine l_ixT (tup_at l1) at1 ?_
    walk_at "s"
    refine l_newT (by show 1 ≤ sizeLine; decide) fun q G2 nq sq eq => ?_
    refine l_catT (ys := [V.str "failed"]) (tup_at (sq _ _ l2)) (tup_at eq) (fun z => ?_) (fun z => by cases z) ?_ fun q3 G3 n3 s3 e3 => ?_
    · have l := gp.2.2.1
      rw [List.map_eq_nil_iff.mp z] at l
      exact absurd l (by decide)
    · rw [List.length_map, sizeLine_eq]
      have := gp.2.2.2.1
      simp
      omega
    walk_at "s"
    have e3' : G3 q3 = some (.tup ((x.2.2 ++ [("failed" : Str)]).map V.str)) := by rw [e3, List.map_append]; rfl
    refine l_sortT (tup_at e3') (by rw [List.length_append]; have := gp.2.2.2.1; simp; omega) fun q4 G4 n4 s4 e4 => ?_
    walk_at "s"
    refine l_tupL (SqL.of e4) fun q5 G5 n5 s5 e5 => ?_
    refine r (.ref q5) G5 (((sq.trans s3).trans s4).trans s5) fun y hy ey => ?_
    have ey : x.1 = y.1 := Sum.inr.inj ey
    have eq : y = x := by
      obtain ⟨i, hi, e1⟩ := List.getElem_of_mem hx
      obtain ⟨j, hj, e2⟩ := List.getElem_of_mem hy
      have hij : i = j := by
        refine (List.getElem_inj (xs := b.map (·.1)) (h₀ := by rw [List.length_map]; exact hi) (h₁ := by rw [List.length_map]; exact hj) raw.nd).mp ?_
        rw [List.getElem_map, List.getElem_map, e1, e2]
        exact ey
      subst hij
      rw [← e1, ← e2]
    rw [eq]
    exact ⟨q5, rfl, e5⟩
  · rw [List.filter_eq_self.mpr (fun _ _ => rfl)]
    exact rows.keys
end
/-! ### books made -/
def sortB (b : PB) : PB := b.mergeSort fun x y => leB x.1 y.1
theorem sortB_perm (b : PB) : (sortB b).Perm b := List.mergeSort_perm b _
theorem leB_trans {x y z : Str} (a : leB x y = true) (b : leB y z = true) : leB x z = true := decide_eq_true (leS_trans (of_decide_eq_true a) (of_decide_eq_true b))
theorem leB_total (x y : Str) : (leB x y || leB y x) = true := by
  rcases leS_total x y with h | h
  · rw [show leB x y = true from decide_eq_true h, Bool.true_or]
  · rw [show leB y x = true from decide_eq_true h, Bool.or_true]
theorem sortB_fst (b : PB) : (sortB b).map (·.1) = sortS (b.map (·.1)) := by
  refine le_unique ?_ (sortS_le _) (((sortB_perm b).map (·.1)).trans (sortS_perm _).symm)
  refine List.pairwise_map.mpr ?_
  exact List.Pairwise.imp (fun z => of_decide_eq_true z) (List.pairwise_mergeSort (le := fun x y : Str × Nat × List Str => leB x.1 y.1) (fun _ _ _ p q => leB_trans p q) (fun x y => leB_total _ _) b)
theorem RawB.perm {b c : PB} (p : c.Perm b) (r : RawB b) : RawB c := ⟨(p.map (·.1)).nodup_iff.mpr r.nd, fun x hx => r.nm x (p.mem_iff.mp hx), fun x hx => r.pr x (p.mem_iff.mp hx), by rw [p.length_eq]; exact r.n1, by rw [p.length_eq]; exact r.n6⟩
theorem RawB.sort {b : PB} (r : RawB b) : GoodB (sortB b) := ⟨r.perm (sortB_perm b), by rw [sortB_fst]; exact sortS_asc r.nd⟩
theorem pb_one {b : PB} (nd : (b.map (·.1)).Nodup) {x y : Str × Nat × List Str} (hx : x ∈ b) (hy : y ∈ b) (e : x.1 = y.1) : x = y := by
  obtain ⟨i, hi, e1⟩ := List.getElem_of_mem hx
  obtain ⟨j, hj, e2⟩ := List.getElem_of_mem hy
  have hij : i = j := by
    refine (List.getElem_inj (xs := b.map (·.1)) (h₀ := by rw [List.length_map]; exact hi) (h₁ := by rw [List.length_map]; exact hj) nd).mp ?_
    rw [List.getElem_map, List.getElem_map, e1, e2]
    exact e
  subst hij
  rw [← e1, ← e2]
theorem pb_ext {a : PB} (nd : (a.map (·.1)).Nodup) : ∀ {b c : PB}, (∀ x ∈ b, x ∈ a) → (∀ x ∈ c, x ∈ a) → b.map (·.1) = c.map (·.1) → b = c
  | [], [], _, _, _ => rfl
  | [], _ :: _, _, _, e => by simp at e
  | _ :: _, [], _, _, e => by simp at e
  | x :: b, y :: c, hb, hc, e => by
    rw [List.map_cons, List.map_cons, List.cons.injEq] at e
    rw [pb_one nd (hb x List.mem_cons_self) (hc y List.mem_cons_self) e.1, pb_ext nd (fun z h => hb z (List.mem_cons_of_mem _ h)) (fun z h => hc z (List.mem_cons_of_mem _ h)) e.2]
theorem GoodB.sorted {b : PB} (g : GoodB b) : sortB b = b := pb_ext g.raw.nd (fun x h => (sortB_perm b).mem_iff.mp h) (fun _ h => h) (by rw [sortB_fst, sortS_id g.asc])
section
variable {P : Program} {w : World} {K : PySem.W.Frag} {mg : Str → Option Value} {base : Heap}
def sp_checked_pairs : Sp := fun vs H Q _ => ∃ (p : Addr) (kvs : List (Key × V)) (b : PB), vs = [.ref p] ∧ H p = some (.dK kvs) ∧ RowsAt H kvs b ∧ RawB b ∧ ∀ D G ws, H D = none → Same H G → RowsAt G ws (sortB b) → G D = some (.dK ws) → Q (.ref D) G
theorem at_unlock {H G : Hp} {d : Addr} {kvs : List (Key × V)} {od : Obj} {v : V} {t : Nat} {as : List Str} (hd : H d = some (.dK kvs)) (s : Same (locked H d od kvs) G) (p : PairV H v t as) : PairV G v t as :=
  pairV_bears.same _ _ _ s (pairV_bears.set _ _ _ _ _ hd (fun _ z => by cases z) p)
theorem ok_checked_pairs (T : Txt K mg) : FnG P w K mg base CX0 4 T.a_checked_pairs T.d_checked_pairs ["commands"] sp_checked_pairs := by
  have G_is_answer : FnG P w K mg base CX0 2 T.a_is_answer T.d_is_answer ["value"] (sp_told K answerB1) := ok_is_answer T
  have G_is_pair : FnG P w K mg base CX0 3 T.a_is_pair T.d_is_pair ["value"] sp_pair := ok_is_pair T
  refine okG T.F_checked_pairs sc_checked_pairs (fun vs H Q E h => ?_) (fun cdv A fs s H vs Q E hr h => ?_)
  · obtain ⟨p, kvs, b, rfl, _⟩ := h
    rfl
  obtain ⟨p, kvs, b, rfl, ep, rows, raw, k⟩ := h
  have nd := sc_checked_pairs.nd
  have HP := @PassesOwn.never
  have n1 := raw.n1
  have n6 := raw.n6
  have lr := rows.len
  refine ⟨_, ((pss_cons (ps_if (PW.pt (pw_or (pt_not (pt_val (pe_callB call_isi (by rfl) T.z_isinstance (by decide +kernel) (pa_cons (pv 0) (pa_cons (pe_tyV (n := "dict") (by rfl) T.z_dict (by decide +kernel)) pa_nil))))) (pw_or1 (pt_not (pt_chain op_le op_le pe_int (pe_callB c_lenD (by rfl) T.z_len (by decide +kernel) (pa_cons (pv 0) pa_nil)) (pe_glob rfl T.m_MAX_COMMANDS T.r_MAX_COMMANDS)))))) (pss_one ps_never) pss_nil)
  (pss_cons (ps_lock (ps_for HP rfl (pi_keys (pv 0)) (pg_name (i := 1) nd rfl (Or.inl rfl)) (pss_cons (ps_if (pt_not (pt_val (pe_callG G_is_answer (hr.down (by decide)) rfl T.m_is_answer T.F_is_answer.kp T.b_is_answer .nil pass0 (pa_cons (pv 1) pa_nil)))) (pss_one ps_never) pss_nil)
  (pss_one (ps_if (pt_not (pt_val (pe_callG G_is_pair (hr.down (by decide)) rfl T.m_is_pair T.F_is_pair.kp T.b_is_pair .nil pass0 (pa_cons (pe_dget hr.hu (pv 0) (pv 1) (fun _ _ => rfl)) pa_nil)))) (pss_one ps_never) pss_nil)))))
  (pss_one (ps_ret (pe_dc (own := [("command", 1)]) rfl nd (pi_list (pe_callB (call_sortedK rfl) (by rfl) T.z_sorted (by decide +kernel) (pa_cons (pv 0) pa_nil))) (blkOk_by (own := [("command", 1)]) (N := ["commands", "command"]) (sc := defScope s_checked_pairs) (by decide +kernel)) (fun _ _ _ _ _ => pg_name (i := 1) nd rfl (Or.inl rfl)) (fun _ _ _ _ _ => pts_nil) (fun _ _ _ _ _ => by exact (pv 1)) (fun _ _ _ _ _ => by exact (pe_dget hr.hu (pv 0) (pv 1) (fun _ _ => rfl))))))))), ?_⟩
  walk_at "s"
  refine l_isDict ep ?_
  walk_at "s"
  refine i_f rfl ?_
  walk_at "s"
  refine l_lenD ep ?_
  walk_at "s"
  refine i_t (decide_eq_true (by omega)) ?_
  walk_at "s"
  refine i_f (by rw [decide_eq_true (show ((kvs.length : Nat) : Int) ≤ 6 by omega)]; rfl) ?_
  walk_at "s"
  refine l_forK (fun od R r => s_var rfl r) ep (fun i τ => ∃ z, τ = [some (.ref p), z]) ⟨none, rfl⟩ (fun od i k0 v τ G hi p0 sg R r => ?_) (fun τ G p0 sg => ?_)
  · obtain ⟨z, rfl⟩ := p0
    have hk : k0 ∈ kvs.map (·.1) := List.mem_map_of_mem (f := (·.1)) (List.mem_of_getElem? hi)
    obtain ⟨x, hx, rfl⟩ := key_of rows hk
    obtain ⟨v', ev, pv'⟩ := rows.find raw.nd hx
    walk_at "s"
    refine ⟨.str x.1, rfl, Or.inl ⟨x.1, rfl, name_txt (answer_name (raw.nm x hx)), fun J sj => ?_⟩⟩
    rw [raw.nm x hx]
    refine l_bl (i_f rfl ?_)
    walk_at "s"
    refine ⟨p, v', rfl, ?_, ?_⟩
    · rw [← ev]
      exact dgetF (at_lock (sg.trans sj))
    walk_at "s"
    refine ⟨v', x.2.1, x.2.2, rfl, at_unlock ep (sg.trans sj) pv', raw.pr x hx, fun J2 s2 => ?_⟩
    refine l_bl (i_f rfl ?_)
    walk_at "s"
    exact r _ _ ⟨_, rfl⟩ (sj.trans s2)
  · obtain ⟨z, rfl⟩ := p0
    have rows2 := rows.same sg
    walk_at "s"
    refine l_sortD (Or.inl (sg _ _ ep)) rows.keys (by rw [List.length_map]; omega) fun q G2 nq sq eq => ?_
    refine l_dcLp (SqL.of eq) ((sortS_perm _).nodup_iff.mpr raw.nd) (by rw [(sortS_perm _).length_eq, List.length_map]; omega) (fun _ => true) (fun k _ v => valV kvs (.inr k) = some v) (fun k => ⟨fun _ _ _ _ h => h, fun _ _ _ _ _ _ _ h => h⟩)
      (fun k hk G3 s3 R r => s_yes (r G3 (Same.refl G3))) (fun k hk _ G3 s3 R r => s_var rfl (r G3 (Same.refl G3))) (fun k hk _ G3 s3 R r => ?_) (fun D G3 ws hD s3 en e3 => ?_)
    · have hk : k ∈ b.map (·.1) := (sortS_perm _).mem_iff.mp hk
      obtain ⟨x, hx, rfl⟩ := List.mem_map.mp hk
      obtain ⟨v', ev, pv'⟩ := rows.find raw.nd hx
      walk_at "s"
      refine ⟨p, v', rfl, ?_, r v' G3 (Same.refl G3) ev⟩
      rw [← ev]
      exact DGet.k (k := .inr x.1) (s3 _ _ (sq _ _ (sg _ _ ep)))
    · rw [List.filter_eq_self.mpr (fun _ _ => rfl), ← sortB_fst] at en
      have nD : H D = none := by
        cases e0 : H D with
        | none => rfl
        | some u =>
          rw [sq _ _ (sg _ _ e0)] at hD
          cases hD
      exact k D G3 ws nD ((sg.trans sq).trans s3) ((rows_pick rows raw.nd (fun x h => (sortB_perm b).mem_iff.mp h) en).same ((sg.trans sq).trans s3)) e3
end
section
variable {w : World} {K : PySem.W.Frag} {mg : Str → Option Value} {base : Heap}
theorem G_UnknownName (T : Txt K mg) (k : Nat) : FnG prog0 w K mg base CX0 (k + 1) T.i_UnknownName T.d_UnknownName ["self", "name"] (spInit T.c_UnknownName "name" K) :=
  init_of T.e_UnknownName sc_UnknownName_init (by rfl) ⟨by decide, by decide, by decide, by decide⟩ (fun X => ⟨_, rfl⟩) (fun X => rfl) (fun X => rfl) k (fun X e r n v => e ▸ pe_j2 r n v (by decide) (by decide) (by decide +kernel)) fun σ H Q v e sh q => ⟨v, e, sh, q⟩
end
/-! ### books as objects -/
section
variable {K : PySem.W.Frag} {mg : Str → Option Value} {T : Txt K mg} {H G : Hp} {a : Addr} {b : PB}
def BookAt (T : Txt K mg) (H : Hp) (a : Addr) (b : PB) : Prop := ∃ dx p o kvs ows, H a = some (.ins T.c_Book dx [("_pairs", .ref p), ("_outcomes", .ref o)]) ∧ H p = some (.dK kvs) ∧ H o = some (.dK ows) ∧ RowsAt H kvs b ∧ OutsAt H ows b ∧ GoodB b
/-- read, the dict of the pairs perhaps locked -/
def BookRd (T : Txt K mg) (H : Hp) (a : Addr) (b : PB) : Prop := ∃ dx p o kvs ows, H a = some (.ins T.c_Book dx [("_pairs", .ref p), ("_outcomes", .ref o)]) ∧ Rd H p (.dK kvs) ∧ Rd H o (.dK ows) ∧ RowsAt H kvs b ∧ OutsAt H ows b ∧ GoodB b
theorem BookAt.rd (h : BookAt T H a b) : BookRd T H a b := by
  obtain ⟨dx, p, o, kvs, ows, h1, h2, h3, h4⟩ := h
  exact ⟨dx, p, o, kvs, ows, h1, Or.inl h2, Or.inl h3, h4⟩
theorem BookAt.same (s : Same H G) (h : BookAt T H a b) : BookAt T G a b := by
  obtain ⟨dx, p, o, kvs, ows, h1, h2, h3, h4, h5, h6⟩ := h
  exact ⟨dx, p, o, kvs, ows, s _ _ h1, s _ _ h2, s _ _ h3, h4.same s, h5.same s, h6⟩
theorem rd_same {a : Addr} {u : HO} (s : Same H G) (h : Rd H a u) : Rd G a u := by
  rcases h with h | ⟨o, h⟩
  · exact Or.inl (s _ _ h)
  · exact Or.inr ⟨o, s _ _ h⟩
theorem BookRd.same (s : Same H G) (h : BookRd T H a b) : BookRd T G a b := by
  obtain ⟨dx, p, o, kvs, ows, h1, h2, h3, h4, h5, h6⟩ := h
  exact ⟨dx, p, o, kvs, ows, s _ _ h1, rd_same s h2, rd_same s h3, h4.same s, h5.same s, h6⟩
theorem BookRd.good (h : BookRd T H a b) : GoodB b := by
  obtain ⟨_, _, _, _, _, _, _, _, _, _, g⟩ := h
  exact g
theorem rd_lock {d p : Addr} {kvs ows : List (Key × V)} {od : Obj} (hd : H d = some (.dK kvs)) (h : Rd H p (.dK ows)) : Rd (locked H d od kvs) p (.dK ows) := by
  by_cases e : p = d
  · subst e
    rcases h with h | ⟨o, h⟩
    · rw [hd] at h
      cases h
      exact Or.inr ⟨od, upd_same⟩
    · rw [hd] at h
      cases h
  · rcases h with h | ⟨o, h⟩
    · exact Or.inl (by show upd H d _ p = _; rw [upd_ne e]; exact h)
    · exact Or.inr ⟨o, by show upd H d _ p = _; rw [upd_ne e]; exact h⟩
/-- any dict may be locked meanwhile -/
theorem BookRd.lock {d : Addr} {kvs : List (Key × V)} {od : Obj} (hd : H d = some (.dK kvs)) (h : BookRd T H a b) : BookRd T (locked H d od kvs) a b := by
  obtain ⟨dx, p, o, kvs', ows, h1, h2, h3, h4, h5, h6⟩ := h
  have na : a ≠ d := fun z => by
    rw [z, hd] at h1
    cases h1
  exact ⟨dx, p, o, kvs', ows, by show upd H d _ a = _; rw [upd_ne na]; exact h1, rd_lock hd h2, rd_lock hd h3, h4.set hd (fun _ z => by cases z), h5.set hd (fun _ z => by cases z), h6⟩
def hasB (b : PB) : V → Bool := fun x => match x with
  | .str s => decide (s ∈ b.map (·.1))
  | _ => false
theorem hasB_no {K : PySem.W.Frag} {H : Hp} {x : V} (b : PB) (n : NotStr K H x) : hasB b x = false := by
  cases x with
  | str s => exact n.no.elim
  | _ => rfl
end
section
variable {w : World} {K : PySem.W.Frag} {mg : Str → Option Value} {base : Heap}
/-- a text or none -/
def StrOr (K : PySem.W.Frag) (H : Hp) (x : V) : Prop := (∃ s, x = .str s) ∨ NotStr K H x
def sp_has (T : Txt K mg) : Sp := fun vs H Q _ => ∃ (a : Addr) (b : PB) (x : V), vs = [.ref a, x] ∧ BookRd T H a b ∧ StrOr K H x ∧ Q (.bl (hasB b x)) H
theorem fld0 {p o : V} : ([("_pairs", p), ("_outcomes", o)] : List (Str × V)).lookup ("_pairs" : Str) = some p := rfl
theorem fld1 {p o : V} : ([("_pairs", p), ("_outcomes", o)] : List (Str × V)).lookup ("_outcomes" : Str) = some o := rfl
theorem rows_get {H : Hp} {kvs : List (Key × V)} {b : PB} {p : Addr} {s : Str} (h : Rd H p (.dK kvs)) : DGet H p (.str s) (valV kvs (.inr s)) := .inl ⟨kvs, .inr s, h, rfl, rfl⟩
theorem ok_Book___contains__ (T : Txt K mg) : FnG prog0 w K mg base CX0 1 T.a_Book___contains__ T.d_Book___contains__ ["self", "value"] (sp_has T) := by
  refine okG T.F_Book___contains__ sc_Book___contains__ (fun vs H Q E h => ?_) (fun cdv A fs s H vs Q E hr h => ?_)
  · obtain ⟨a, b, x, rfl, _⟩ := h
    rfl
  obtain ⟨a, b, x, rfl, ⟨dx, p, o, kvs, ows, h1, h2, h3, h4, h5, h6⟩, hx, k⟩ := h
  have nd := sc_Book___contains__.nd
  refine ⟨_, ((pss_one (ps_ret (pe_and (pe_callB call_isi (by rfl) T.z_isinstance (by decide +kernel) (pa_cons (pv 1) (pa_cons (pe_tyV (n := "str") (by rfl) T.z_str (by decide +kernel)) pa_nil))) (pe_one (pe_cmpR (op_dIn hr.hu) (pv 1) (pe_fld (pv 0) rfl) (by rfl))))))), ?_⟩
  walk_at "s"
  rcases hx with ⟨z, rfl⟩ | ns
  · refine l_isStr ?_
    walk_at "s"
    refine i_t rfl ?_
    walk_at "s"
    refine l_fld h1 T.o_Book.cl T.n_Book__pairs fld0 ?_
    refine l_dIn (rows_get (b := b) h2) ?_
    rw [h4.has h6.raw.nd]
    exact k
  · refine l_notStr ns ?_
    walk_at "s"
    refine i_f rfl ?_
    rw [hasB_no b ns] at k
    exact k
def sp_len (T : Txt K mg) : Sp := fun vs H Q _ => ∃ (a : Addr) (b : PB), vs = [.ref a] ∧ BookRd T H a b ∧ Q (.int b.length) H
theorem ok_Book___len__ (T : Txt K mg) : FnG prog0 w K mg base CX0 1 T.a_Book___len__ T.d_Book___len__ ["self"] (sp_len T) := by
  refine okG T.F_Book___len__ sc_Book___len__ (fun vs H Q E h => ?_) (fun cdv A fs s H vs Q E hr h => ?_)
  · obtain ⟨a, b, rfl, _⟩ := h
    rfl
  obtain ⟨a, b, rfl, ⟨dx, p, o, kvs, ows, h1, h2, h3, h4, h5, h6⟩, k⟩ := h
  have nd := sc_Book___len__.nd
  refine ⟨_, ((pss_one (ps_ret (pe_callB c_lenD (by rfl) T.z_len (by decide +kernel) (pa_cons (pe_fld (pv 0) rfl) pa_nil))))), ?_⟩
  walk_at "s"
  refine l_fld h1 T.o_Book.cl T.n_Book__pairs fld0 ?_
  walk_at "s"
  refine l_lenR h2 ?_
  rw [h4.len]
  exact k
def sp_commands (T : Txt K mg) : Sp := fun vs H Q _ => ∃ (a : Addr) (b : PB), vs = [.ref a] ∧ BookRd T H a b ∧ ∀ t G, H t = none → Same H G → G t = some (.tup ((b.map (·.1)).map V.str)) → Q (.ref t) G
theorem ok_Book_commands (T : Txt K mg) : FnG prog0 w K mg base CX0 1 T.a_Book_commands T.d_Book_commands ["self"] (sp_commands T) := by
  refine okG T.F_Book_commands sc_Book_commands (fun vs H Q E h => ?_) (fun cdv A fs s H vs Q E hr h => ?_)
  · obtain ⟨a, b, rfl, _⟩ := h
    rfl
  obtain ⟨a, b, rfl, ⟨dx, p, o, kvs, ows, h1, h2, h3, h4, h5, h6⟩, k⟩ := h
  have nd := sc_Book_commands.nd
  refine ⟨_, ((pss_one (ps_ret (pe_callTy (call_tupleD rfl) (by rfl) T.z_tuple (by decide +kernel) (pa_cons (pe_fld (pv 0) rfl) pa_nil))))), ?_⟩
  walk_at "s"
  refine l_fld h1 T.o_Book.cl T.n_Book__pairs fld0 ?_
  walk_at "s"
  refine l_tupleD h2 fun t G nt st et => k t G nt st ?_
  have e := congrArg (List.map kV) h4.keys
  rw [List.map_map, List.map_map] at e
  rw [et]
  exact congrArg (fun l => some (HO.tup l)) e
/-- raised: nothing has this name -/
def Unk (T : Txt K mg) (x : V) (H : Hp) (E : XK) : Prop := Shw K H x ∧ ∀ d, H d = none → E (.ref T.c_UnknownName) (some d) (upd H d (.xd [("name", x)]))
/-- a command's value, or nothing has this name -/
def Found (T : Txt K mg) (x : V) (H : Hp) (E : XK) (b : PB) (k : Str × Nat × List Str → Prop) : Prop := StrOr K H x ∧ ((∃ e, e ∈ b ∧ x = .str e.1 ∧ k e) ∨ (hasB b x = false ∧ Unk T x H E))
def sp_getitem (T : Txt K mg) : Sp := fun vs H Q E => ∃ (a : Addr) (b : PB) (x : V), vs = [.ref a, x] ∧ BookRd T H a b ∧ Found T x H E b fun e => ∀ v, PairV H v e.2.1 e.2.2 → Q v H
theorem hasB_in {b : PB} {e : Str × Nat × List Str} (h : e ∈ b) : hasB b (.str e.1) = true := decide_eq_true (List.mem_map_of_mem h)
theorem ok_Book___getitem__ (T : Txt K mg) : FnG prog0 w K mg base (L2.CX prog0 w) 3 T.a_Book___getitem__ T.d_Book___getitem__ ["self", "command"] (sp_getitem T) := by
  have G_Book___contains__ : FnG prog0 w K mg base CX0 1 T.a_Book___contains__ T.d_Book___contains__ ["self", "value"] (sp_has T) := ok_Book___contains__ T
  refine okGX T.F_Book___getitem__ sc_Book___getitem__ (fun vs H Q E h => ?_) (fun cdv A fs s H vs Q E hr h tk => ?_)
  · obtain ⟨a, b, x, rfl, _⟩ := h
    rfl
  obtain ⟨a, b, x, rfl, bk, hx, k⟩ := h
  obtain ⟨dx, p, o, kvs, ows, h1, h2, h3, h4, h5, h6⟩ := id bk
  have nd := sc_Book___getitem__.nd
  refine ⟨_, ((pss_cons (ps_if (pt_cmpR (op_ownNin T.D_Book___contains__ G_Book___contains__ (hr.down (by decide)) T.b_Book___contains__ pass0) (pv 1) (pv 0) (by rfl)) (pss_one (ps_raise rfl tk (pmk_makeI T.e_UnknownName.o T.e_UnknownName.iC T.e_UnknownName.tI (G_UnknownName (w := w) (base := base) T 0) (hr.down (by decide)) T.e_UnknownName.b rfl T.e_UnknownName.m (pv 1)))) pss_nil)
  (pss_one (ps_ret (pe_dget hr.hu (pe_fld (pv 0) rfl) (pv 1) (fun _ _ => rfl)))))), ?_⟩
  walk_at "s"
  refine ⟨a, dx, _, rfl, h1, a, b, x, rfl, bk, hx, _, rfl, ?_⟩
  rcases k with ⟨e, he, rfl, k⟩ | ⟨hb, sh, k⟩
  · rw [hasB_in he]
    walk_at "s"
    refine i_f rfl ?_
    walk_at "s"
    refine l_fld h1 T.o_Book.cl T.n_Book__pairs fld0 ?_
    walk_at "s"
    obtain ⟨v, ev, pv'⟩ := h4.find h6.raw.nd he
    refine ⟨p, v, rfl, ?_, k v pv'⟩
    rw [← ev]
    exact rows_get (b := b) h2
  · rw [hb]
    walk_at "s"
    refine i_t rfl ?_
    walk_at "s"
    exact ⟨fun a n => shw_u sh a _ n, fun d n => k d n⟩
end
section
variable {w : World} {K : PySem.W.Frag} {mg : Str → Option Value} {base : Heap}
def sp_takes (T : Txt K mg) : Sp := fun vs H Q E => ∃ (a : Addr) (b : PB) (x : V), vs = [.ref a, x] ∧ BookRd T H a b ∧ Found T x H E b fun e => Q (.int e.2.1) H
theorem ok_Book_takes (T : Txt K mg) : FnG prog0 w K mg base (L2.CX prog0 w) 5 T.a_Book_takes T.d_Book_takes ["self", "command"] (sp_takes T) := by
  have G_Book___getitem__ : FnG prog0 w K mg base (L2.CX prog0 w) 3 T.a_Book___getitem__ T.d_Book___getitem__ ["self", "command"] (sp_getitem T) := ok_Book___getitem__ T
  refine okGX T.F_Book_takes sc_Book_takes (fun vs H Q E h => ?_) (fun cdv A fs s H vs Q E hr h tk => ?_)
  · obtain ⟨a, b, x, rfl, _⟩ := h
    rfl
  obtain ⟨a, b, x, rfl, bk, hx, k⟩ := h
  obtain ⟨dx, p, o, kvs, ows, h1, h2, h3, h4, h5, h6⟩ := id bk
  have nd := sc_Book_takes.nd
  refine ⟨_, ((pss_one (ps_ret (pe_ix ix_tup (pe_ownAt T.D_Book___getitem__ (fun_fi T.F_Book___getitem__) G_Book___getitem__ (hr.down (by decide)) T.b_Book___getitem__ (pxE tk (fun _ _ _ _ h => h)) (pv 0) (pv 1)) pe_int (fun _ _ => rfl))))), ?_⟩
  walk_at "s"
  refine ⟨a, dx, _, rfl, h1, a, b, x, rfl, bk, hx, ?_⟩
  rcases k with ⟨e, he, rfl, k⟩ | k
  · refine Or.inl ⟨e, he, rfl, fun v pv' => ?_⟩
    obtain ⟨pr, an, rfl, e1, e2⟩ := pv'
    walk_at "s"
    exact l_ixT (tup_at e1) at0 k
  · exact Or.inr k
def sp_answers (T : Txt K mg) : Sp := fun vs H Q E => ∃ (a : Addr) (b : PB) (x : V), vs = [.ref a, x] ∧ BookRd T H a b ∧ Found T x H E b fun e => ∀ an, H an = some (.tup (e.2.2.map V.str)) → Q (.ref an) H
theorem ok_Book_answers (T : Txt K mg) : FnG prog0 w K mg base (L2.CX prog0 w) 5 T.a_Book_answers T.d_Book_answers ["self", "command"] (sp_answers T) := by
  have G_Book___getitem__ : FnG prog0 w K mg base (L2.CX prog0 w) 3 T.a_Book___getitem__ T.d_Book___getitem__ ["self", "command"] (sp_getitem T) := ok_Book___getitem__ T
  refine okGX T.F_Book_answers sc_Book_answers (fun vs H Q E h => ?_) (fun cdv A fs s H vs Q E hr h tk => ?_)
  · obtain ⟨a, b, x, rfl, _⟩ := h
    rfl
  obtain ⟨a, b, x, rfl, bk, hx, k⟩ := h
  obtain ⟨dx, p, o, kvs, ows, h1, h2, h3, h4, h5, h6⟩ := id bk
  have nd := sc_Book_answers.nd
  refine ⟨_, ((pss_one (ps_ret (pe_ix ix_tup (pe_ownAt T.D_Book___getitem__ (fun_fi T.F_Book___getitem__) G_Book___getitem__ (hr.down (by decide)) T.b_Book___getitem__ (pxE tk (fun _ _ _ _ h => h)) (pv 0) (pv 1)) pe_int (fun _ _ => rfl))))), ?_⟩
  walk_at "s"
  refine ⟨a, dx, _, rfl, h1, a, b, x, rfl, bk, hx, ?_⟩
  rcases k with ⟨e, he, rfl, k⟩ | k
  · refine Or.inl ⟨e, he, rfl, fun v pv' => ?_⟩
    obtain ⟨pr, an, rfl, e1, e2⟩ := pv'
    walk_at "s"
    exact l_ixT (tup_at e1) at1 (k an e2)
  · exact Or.inr k
def sp_outcomes (T : Txt K mg) : Sp := fun vs H Q E => ∃ (a : Addr) (b : PB) (x : V), vs = [.ref a, x] ∧ BookRd T H a b ∧ Found T x H E b fun e => ∀ t, H t = some (.tup ((outs e.2.2).map V.str)) → Q (.ref t) H
theorem ok_Book_outcomes (T : Txt K mg) : FnG prog0 w K mg base (L2.CX prog0 w) 3 T.a_Book_outcomes T.d_Book_outcomes ["self", "command"] (sp_outcomes T) := by
  have G_Book___contains__ : FnG prog0 w K mg base CX0 1 T.a_Book___contains__ T.d_Book___contains__ ["self", "value"] (sp_has T) := ok_Book___contains__ T
  refine okGX T.F_Book_outcomes sc_Book_outcomes (fun vs H Q E h => ?_) (fun cdv A fs s H vs Q E hr h tk => ?_)
  · obtain ⟨a, b, x, rfl, _⟩ := h
    rfl
  obtain ⟨a, b, x, rfl, bk, hx, k⟩ := h
  obtain ⟨dx, p, o, kvs, ows, h1, h2, h3, h4, h5, h6⟩ := id bk
  have nd := sc_Book_outcomes.nd
  refine ⟨_, ((pss_cons (ps_if (pt_cmpR (op_ownNin T.D_Book___contains__ G_Book___contains__ (hr.down (by decide)) T.b_Book___contains__ pass0) (pv 1) (pv 0) (by rfl)) (pss_one (ps_raise rfl tk (pmk_makeI T.e_UnknownName.o T.e_UnknownName.iC T.e_UnknownName.tI (G_UnknownName (w := w) (base := base) T 0) (hr.down (by decide)) T.e_UnknownName.b rfl T.e_UnknownName.m (pv 1)))) pss_nil)
  (pss_one (ps_ret (pe_dget hr.hu (pe_fld (pv 0) rfl) (pv 1) (fun _ _ => rfl)))))), ?_⟩
  walk_at "s"
  refine ⟨a, dx, _, rfl, h1, a, b, x, rfl, bk, hx, _, rfl, ?_⟩
  rcases k with ⟨e, he, rfl, k⟩ | ⟨hb, sh, k⟩
  · rw [hasB_in he]
    walk_at "s"
    refine i_f rfl ?_
    walk_at "s"
    refine l_fld h1 T.o_Book.cl T.n_Book__outcomes fld1 ?_
    walk_at "s"
    obtain ⟨v, ev, t, rfl, et⟩ := h5.find h6.raw.nd he
    refine ⟨o, .ref t, rfl, ?_, k t et⟩
    rw [← ev]
    exact rows_get (b := b) h3
  · rw [hb]
    walk_at "s"
    refine i_t rfl ?_
    walk_at "s"
    exact ⟨fun a n => shw_u sh a _ n, fun d n => k d n⟩
/-! ### compared, told as a text -/
def pairD (x : Nat × List Str) : PyData := .tuple [.int x.1, .tuple (x.2.map PyData.str)]
def rowsD (b : PB) : List (Key × PyData) := b.map fun x => (.inr x.1, pairD x.2)
theorem dp_strs {H : Hp} : ∀ l : List Str, DpAll K H (l.map V.str) (l.map PyData.str)
  | [] => .nil
  | s :: l => .cons (.str s) (dp_strs l)
theorem dp_pair {H : Hp} {v : V} {t : Nat} {as : List Str} (h : PairV H v t as) : Dp K H v (pairD (t, as)) := by
  obtain ⟨pr, an, rfl, e1, e2⟩ := h
  exact .tup (tup_at e1) (.cons (.int _) (.cons (.tup (tup_at e2) (dp_strs as)) .nil))
theorem str_shaped {l : List Str} (h : ∀ s ∈ l, nameB s = true) : PyData.canLayAll0 (l.map PyData.str) = true ∧ PyData.depthAll (l.map PyData.str) = 0 := by
  induction l with
  | nil => exact ⟨rfl, rfl⟩
  | cons s l ih =>
    obtain ⟨i1, i2⟩ := ih fun x hx => h x (List.mem_cons_of_mem _ hx)
    have hs := (name_txt (h s List.mem_cons_self)).2
    refine ⟨?_, ?_⟩
    · rw [List.map_cons]
      simp only [PyData.canLayAll0, PyData.canLay0, i1, Bool.and_true]
      show (s.cps).all _ = true
      rw [← Array.all_toList, List.all_eq_true]
      intro c hc
      have := hs c hc
      simp
      omega
    · rw [List.map_cons]
      simp only [PyData.depthAll, PyData.depth, i2]
      rfl
theorem pair_shaped {t : Nat} {as : List Str} (g : GoodP t as) : SeqAt.shaped (pairD (t, as)) = true := by
  obtain ⟨h1, h2⟩ := str_shaped fun s hs => answer_name (g.2.2.2.2 s hs)
  unfold SeqAt.shaped pairD
  simp only [PyData.canLay0, PyData.canLayAll0, PyData.depth, PyData.depthAll, h1, h2]
  rfl
theorem rows_holds {H : Hp} : ∀ {kvs : List (Key × V)} {b : PB}, RowsAt H kvs b → (∀ x ∈ b, GoodP x.2.1 x.2.2) → HoldsD K H kvs (rowsD b)
  | [], [], _, _ => .nil
  | [], _ :: _, h, _ => nomatch h
  | _ :: _, [], h, _ => nomatch h
  | _ :: _, x :: b, .cons a t, g => .cons ⟨a.1, dp_pair a.2, pair_shaped (g x List.mem_cons_self)⟩ (rows_holds t fun y hy => g y (List.mem_cons_of_mem _ hy))
theorem eqv_strs : ∀ {l m : List Str}, PyData.eqvAll (l.map PyData.str) (m.map PyData.str) = decide (l = m)
  | [], [] => rfl
  | [], _ :: _ => rfl
  | _ :: _, [] => rfl
  | x :: l, y :: m => by
    rw [List.map_cons, List.map_cons]
    simp only [PyData.eqvAll, PyData.eqv, eqv_strs]
    by_cases h : x = y <;> simp [h]
theorem eqv_pair {x y : Nat × List Str} : PyData.eqv (pairD x) (pairD y) = decide (x = y) := by
  unfold pairD
  simp only [PyData.eqv, PyData.eqvAll, eqv_strs, Bool.and_true]
  obtain ⟨i, l⟩ := x
  obtain ⟨j, m⟩ := y
  by_cases h1 : i = j <;> by_cases h2 : l = m <;> simp [h1, h2] <;> omega
theorem findD_rows {b : PB} {n : Str} : findD (rowsD b) (.inr n) = (b.find? fun x => decide (x.1 = n)).map fun x => pairD x.2 := by
  unfold findD rowsD
  rw [List.find?_map, Option.map_map]
  have e : ((fun p : Key × PyData => decide (p.1 = .inr n)) ∘ fun x : Str × Nat × List Str => ((.inr x.1 : Key), pairD x.2)) = fun x => decide (x.1 = n) := by
    funext x
    show decide ((Sum.inr x.1 : Key) = .inr n) = decide (x.1 = n)
    by_cases h : x.1 = n
    · rw [h, decide_eq_true rfl, decide_eq_true rfl]
    · rw [decide_eq_false h, decide_eq_false fun z => h (Sum.inr.inj z)]
  rw [e]
  rfl
theorem inD_rows {b : PB} (nd : (b.map (·.1)).Nodup) : ∀ {c : PB}, inD (rowsD b) (rowsD c) = decide (∀ x ∈ c, x ∈ b)
  | [] => by
    rw [decide_eq_true]
    · rfl
    · intro _ h
      cases h
  | x :: c => by
    have e : inD (rowsD b) (rowsD (x :: c)) = match findD (rowsD b) (.inr x.1) with | none => false | some y => PyData.eqv (pairD x.2) y && inD (rowsD b) (rowsD c) := rfl
    rw [e, findD_rows, inD_rows nd (c := c)]
    cases f : b.find? fun y => decide (y.1 = x.1) with
    | none =>
      rw [Option.map_none]
      have : x ∉ b := fun h => by
        have := List.find?_eq_none.mp f x h
        simp at this
      exact (decide_eq_false fun z => this (z x List.mem_cons_self)).symm
    | some y =>
      have hy := List.mem_of_find?_eq_some f
      have ey : y.1 = x.1 := by
        have := List.find?_some f
        simpa using this
      rw [Option.map_some]
      show (PyData.eqv (pairD x.2) (pairD y.2) && decide (∀ z ∈ c, z ∈ b)) = _
      rw [eqv_pair]
      by_cases h : x ∈ b
      · have : x = y := pb_one nd h hy ey.symm
        rw [this, decide_eq_true rfl, Bool.true_and]
        by_cases h2 : ∀ z ∈ c, z ∈ b
        · rw [decide_eq_true h2, decide_eq_true]
          intro z hz
          rcases List.mem_cons.mp hz with rfl | hz
          · exact hy
          · exact h2 z hz
        · rw [decide_eq_false h2, decide_eq_false]
          exact fun z => h2 fun y' hy' => z y' (List.mem_cons_of_mem _ hy')
      · have : x.2 ≠ y.2 := fun z => h (by
          have : x = y := Prod.ext ey.symm z
          rw [this]
          exact hy)
        rw [decide_eq_false this, Bool.false_and]
        exact (decide_eq_false fun z => h (z x List.mem_cons_self)).symm
theorem perm_sub : ∀ {l m : List Str}, l.Nodup → (∀ x ∈ l, x ∈ m) → m.length ≤ l.length → l.Perm m
  | [], m, _, _, h => by
    rw [List.length_eq_zero_iff.mp (Nat.le_zero.mp h)]
  | x :: r, m, nd, sub, h => by
    obtain ⟨n1, n2⟩ := List.nodup_cons.mp nd
    have hx := sub x List.mem_cons_self
    have le := List.length_erase_of_mem hx
    rw [List.length_cons] at h
    refine (List.Perm.cons x (perm_sub (m := m.erase x) n2 (fun y hy => ?_) (by omega))).trans (List.perm_cons_erase hx).symm
    have ne : y ≠ x := fun e => n1 (e ▸ hy)
    exact (List.mem_erase_of_ne ne).mpr (sub y (List.mem_cons_of_mem _ hy))
theorem eqD_rows {b c : PB} (gb : GoodB b) (gc : GoodB c) : eqD (rowsD b) (rowsD c) = decide (b = c) := by
  unfold eqD
  rw [inD_rows gc.raw.nd]
  have l1 : (rowsD b).length = b.length := List.length_map _
  have l2 : (rowsD c).length = c.length := List.length_map _
  rw [l1, l2]
  by_cases h : b = c
  · subst h
    rw [decide_eq_true rfl, decide_eq_true fun _ z => z]
    simp
  · rw [decide_eq_false h]
    by_cases hl : b.length = c.length
    · have : ¬ ∀ x ∈ b, x ∈ c := fun sub => h (by
        have p : (b.map (·.1)).Perm (c.map (·.1)) := perm_sub gb.raw.nd (fun n hn => by
            obtain ⟨x, hx, rfl⟩ := List.mem_map.mp hn
            exact List.mem_map_of_mem (sub x hx)) (by rw [List.length_map, List.length_map]; omega)
        exact pb_ext gc.raw.nd sub (fun _ z => z) (asc_unique gb.asc gc.asc p))
      rw [decide_eq_false this, Bool.and_false]
    · have : (b.length == c.length) = false := by simpa using hl
      rw [this, Bool.false_and]
end
section
variable {w : World} {K : PySem.W.Frag} {mg : Str → Option Value} {base : Heap}
/-- another book, or a value of a built-in kind -/
def OrBook (T : Txt K mg) (H : Hp) (y : V) (k : PB → Prop) (n : Prop) : Prop := (∃ c b2, y = .ref c ∧ BookRd T H c b2 ∧ k b2) ∨ (KindAt K H y ∧ n)
def sp_eq (T : Txt K mg) : Sp := fun vs H Q _ => ∃ (a : Addr) (b : PB) (y : V), vs = [.ref a, y] ∧ BookRd T H a b ∧ OrBook T H y (fun c => Q (.bl (decide (b = c))) H) (Q (.bl false) H)
theorem ok_Book___eq__ (T : Txt K mg) : FnG prog0 w K mg base CX0 3 T.a_Book___eq__ T.d_Book___eq__ ["self", "other"] (sp_eq T) := by
  refine okG T.F_Book___eq__ sc_Book___eq__ (fun vs H Q E h => ?_) (fun cdv A fs s H vs Q E hr h => ?_)
  · obtain ⟨a, b, x, rfl, _⟩ := h
    rfl
  obtain ⟨a, b, y, rfl, bk, k⟩ := h
  obtain ⟨dx, p, o, kvs, ows, h1, h2, h3, h4, h5, h6⟩ := id bk
  have nd := sc_Book___eq__.nd
  refine ⟨_, ((pss_cons (ps_if (pt_not (pt_val (pe_callB call_isi (by rfl) T.z_isinstance (by decide +kernel) (pa_cons (pv 1) (pa_cons (pe_glob (v := .ref T.c_Book) rfl T.m_Book rfl) pa_nil))))) (pss_one (ps_ret pe_bl)) pss_nil)
  (pss_one (ps_ret (pe_cmpR (op_eqDD hr.u70) (pe_fld (pv 0) rfl) (pe_fld (pv 1) rfl) (nomark _)))))), ?_⟩
  walk_at "s"
  rcases k with ⟨c, b2, rfl, bk2, k⟩ | ⟨ky, k⟩
  · obtain ⟨dx2, p2, o2, kvs2, ows2, g1, g2, g3, g4, g5, g6⟩ := id bk2
    refine l_isOwn T.o_Book g1 ?_
    walk_at "s"
    refine i_f rfl ?_
    walk_at "s"
    refine l_fld h1 T.o_Book.cl T.n_Book__pairs fld0 ?_
    walk_at "s"
    refine l_fld g1 T.o_Book.cl T.n_Book__pairs fld0 ?_
    refine ⟨p, p2, kvs, kvs2, rowsD b, rowsD b2, rfl, rfl, h2, g2, rows_holds h4 h6.raw.pr, rows_holds g4 g6.raw.pr, ?_⟩
    rw [eqD_rows h6 g6]
    exact k
  · refine l_notOwn T.o_Book ky ?_
    walk_at "s"
    refine i_t rfl ?_
    walk_at "s"
    exact k
def bookText (n : Nat) : Str := ((Str.empty ++ ("book of " : Str)) ++ (toString (n : Int) : Str)) ++ (" commands" : Str)
def sp_str (T : Txt K mg) : Sp := fun vs H Q _ => ∃ (a : Addr) (b : PB), vs = [.ref a] ∧ BookRd T H a b ∧ Q (.str (bookText b.length)) H
theorem ok_Book___str__ (T : Txt K mg) : FnG prog0 w K mg base CX0 1 T.a_Book___str__ T.d_Book___str__ ["self"] (sp_str T) := by
  refine okG T.F_Book___str__ sc_Book___str__ (fun vs H Q E h => ?_) (fun cdv A fs s H vs Q E hr h => ?_)
  · obtain ⟨a, b, rfl, _⟩ := h
    rfl
  obtain ⟨a, b, rfl, ⟨dx, p, o, kvs, ows, h1, h2, h3, h4, h5, h6⟩, k⟩ := h
  have nd := sc_Book___str__.nd
  refine ⟨_, ((pss_one (ps_ret (pe_joined (PJ.cons pe_str (PJ.cons (pe_fmt (pe_callB c_lenD (by rfl) T.z_len (by decide +kernel) (pa_cons (pe_fld (pv 0) rfl) pa_nil))) (PJ.cons pe_str PJ.nil))))))), ?_⟩
  walk_at "s"
  have n6 := h6.raw.n6
  have tx : ∀ n : Nat, n ≤ 6 → ((toString (n : Int) : Str)).length ≤ 6 := fun n hn => by
    match n, hn with
    | 0, _ | 1, _ | 2, _ | 3, _ | 4, _ | 5, _ | 6, _ => decide +kernel
    | n + 7, h => omega
  have t6 := tx b.length n6
  refine ⟨_, rfl, by decide +kernel, ?_⟩
  show tCB rLenD _ _ _ _
  walk_at "s"
  refine l_fld h1 T.o_Book.cl T.n_Book__pairs fld0 ?_
  walk_at "s"
  refine l_lenR h2 ?_
  rw [h4.len]
  have le : ((Str.empty ++ ("book of " : Str))).length = 8 := by decide +kernel
  have lc : ((" commands" : Str)).length = 9 := by decide +kernel
  refine Or.inr ⟨_, rfl, ?_, _, rfl, ?_, _, rfl, ?_, k⟩
  · have h : ((b.length : Int)).natAbs ≤ 6 := by omega
    exact Nat.lt_of_le_of_lt (Nat.log2_le_self _) (by omega)
  · rw [append_len, le, sizeLine_eq]
    omega
  · rw [append_len, append_len, le, sizeLine_eq]
    show 8 + _ + ((" commands" : Str)).length ≤ _
    rw [lc]
    omega
end
section
variable {w : World} {K : PySem.W.Frag} {mg : Str → Option Value} {base : Heap}
/-- the new object and the dict of its keywords; then the object bears the book -/
def sp_init (T : Txt K mg) : Sp := fun vs H Q _ => ∃ (x D dx : Addr) (kvs : List (Key × V)) (b : PB), vs = [.ref x, .ref D] ∧ H x = some (.ins T.c_Book dx []) ∧ H D = some (.dK kvs) ∧ RowsAt H kvs b ∧ RawB b ∧
  ∀ G, BookAt T G x (sortB b) → (∀ y u, y ≠ x → H y = some u → G y = some u) → Q .non G
theorem put0 {p : V} : putF "_pairs" p [] = [(("_pairs" : Str), p)] := rfl
theorem put1 {p o : V} : putF "_outcomes" o [(("_pairs" : Str), p)] = [(("_pairs" : Str), p), ("_outcomes", o)] := rfl
theorem put2 {p p' o : V} : putF "_pairs" p' [(("_pairs" : Str), p), ("_outcomes", o)] = [(("_pairs" : Str), p'), ("_outcomes", o)] := rfl
theorem put3 {p o o' : V} : putF "_outcomes" o' [(("_pairs" : Str), p), ("_outcomes", o)] = [(("_pairs" : Str), p), ("_outcomes", o')] := rfl
theorem init_kw (T : Txt K mg) (ks : List Str) (nd : ks.Nodup) (few : ks.length ≤ 1000)
    (hb : ∀ (fd : FuncData), (∃ (kV doc pm cdv ct : Value) (an : Option Addr), fd = PySem.W.fnOf "__init__" "Book.__init__" (defArgs s_Book___init__) (defBody s_Book___init__) (defScope s_Book___init__) .none kV doc pm an cdv ct) → ∀ (u : Value) (ws : List Value), ws.length = ks.length → bindArgs fd ⟨[u], ks.zip ws⟩ =
      ((alloc (dOf [] 0) : Sem Addr) >>= fun D => (forIn (ks.zip ws) PUnit.unit fun x _ => (nsSet D x.1 x.2 >>= fun _ => pure (ForInStep.yield PUnit.unit))) >>= fun _ => pure [(("self" : Str), u), (("commands" : Str), Value.ref D)])) :
    FnKW prog0 w K mg base CX0 6 T.a_Book___init__ ks (sp_init T) := by
  have G_checked_pairs : FnG prog0 w K mg base CX0 4 T.a_checked_pairs T.d_checked_pairs ["commands"] sp_checked_pairs := ok_checked_pairs T
  have G_outcomes_in : FnG prog0 w K mg base CX0 1 T.a_outcomes_in T.d_outcomes_in ["pairs"] sp_outcomes_in := ok_outcomes_in T
  obtain ⟨oc, od, kV, doc, pm, an, cdv, ct, osl, e, lk, cd⟩ := T.F_Book___init__.ex
  rw [e] at lk
  refine fn_kw nd few lk cd sc_Book___init__ StX.cxUp_none (hb _ ⟨_, _, _, _, _, _, rfl⟩) fun A fs s H vs Q E hr h => ?_
  obtain ⟨x, D, dx, kvs, b, rfl, hx, hD, rows, raw, k⟩ := h
  have nd := sc_Book___init__.nd
  suffices hh : ∃ t, PSs (cxOf CX0 prog0 w K mg base ["self", "commands"] "Book.__init__" (defScope s_Book___init__) T.a_Book___init__ cdv A fs s H E).nox (defBody s_Book___init__) t ∧ t { nx := fun _ G => Q .non G, rt := Q } (start ["self", "commands"] [.ref x, .ref D]) H from by
    obtain ⟨t, h1, h2⟩ := hh
    exact ⟨t, h1.nox, h2⟩
  refine ⟨_, ((pss_cons (ps_fld (pv 0) (pe_callG G_checked_pairs (hr.down (by decide)) rfl T.m_checked_pairs T.F_checked_pairs.kp T.b_checked_pairs .nil pass0 (pa_cons (pv 1) pa_nil)) rfl)
  (pss_one (ps_fld (pv 0) (pe_callG G_outcomes_in (hr.down (by decide)) rfl T.m_outcomes_in T.F_outcomes_in.kp T.b_outcomes_in .nil pass0 (pa_cons (pe_fld (pv 0) rfl) pa_nil)) rfl)))), ?_⟩
  walk_at "s"
  refine ⟨D, kvs, b, rfl, hD, rows, raw, fun p G ws np sp rp ep => ?_⟩
  walk_at "s"
  have hxp : p ≠ x := fun z => by
    rw [z, hx] at np
    cases np
  refine l_setf (sp _ _ hx) T.o_Book.cl T.n_Book__pairs (by show 0 < 1000; decide) ?_
  rw [put0]
  walk_at "s"
  refine l_fld upd_same T.o_Book.cl T.n_Book__pairs rfl ?_
  walk_at "s"
  have gx := sp _ _ hx
  have gd : RawB (sortB b) := raw.sort.raw
  refine ⟨p, ws, sortB b, rfl, by rw [upd_ne hxp]; exact ep, rp.set gx (fun _ z => by cases z), gd, fun o G2 ows no so ro eo => ?_⟩
  walk_at "s"
  have g2x := so _ _ (upd_same (H := G) (a := x))
  have hox : o ≠ x := fun z => by
    rw [z, upd_same] at no
    cases no
  refine l_setf g2x T.o_Book.cl T.n_Book__outcomes (by show 1 < 1000; decide) ?_
  rw [put1]
  have g2p := so p _ (by rw [upd_ne hxp]; exact ep)
  walk_at "s"
  refine k _ ⟨dx, p, o, ws, ows, upd_same, by rw [upd_ne hxp]; exact g2p, by rw [upd_ne hox]; exact eo, ((rp.set gx (fun _ z => by cases z)).same so).set g2x (fun _ z => by cases z), ro.set g2x (fun _ z => by cases z), raw.sort⟩ fun y u ny hy => ?_
  rw [upd_ne ny]
  refine so _ _ ?_
  rw [upd_ne ny]
  exact sp _ _ hy
theorem gk_only (T : Txt K mg) : FnKW prog0 w K mg base CX0 6 T.a_Book___init__ ["only"] (sp_init T) := init_kw T ["only"] (by decide) (by decide) fun fd ⟨_, _, _, _, _, _, e⟩ u ws hl => by
  subst e
  match ws, hl with
  | [w0], _ => rfl
theorem gk_lp (T : Txt K mg) : FnKW prog0 w K mg base CX0 6 T.a_Book___init__ ["look", "put"] (sp_init T) := init_kw T ["look", "put"] (by decide) (by decide) fun fd ⟨_, _, _, _, _, _, e⟩ u ws hl => by
  subst e
  match ws, hl with
  | [w0, w1], _ => rfl
theorem l_makeBook {T : Txt K mg} {H : Hp} {m : Nat} {ks : List Str} {E : XK} {zs : List V} {Q : VK} {b : PB} (len : zs.length = m) (rows : RowsAt H (kwV ks zs) b) (raw : RawB b) (k : ∀ x G, H x = none → Same H G → BookAt T G x (sortB b) → Q (.ref x) G) :
    RMakeKW T.c_Book m ks (sp_init T) E zs H Q := by
  refine ⟨len, fun x dx nx ndx ne D nD => ?_⟩
  have s1 : Same H (upd H dx (.own x)) := Same.upd0 ndx
  have s2 : Same H (upd (upd H dx (.own x)) x (.ins T.c_Book dx [])) := Same.new s1 (by rw [upd_ne (Ne.symm ne)]; exact nx)
  have s3 := Same.new (o := .dK (kwV ks zs)) s2 nD
  have hx : upd (upd (upd H dx (.own x)) x (.ins T.c_Book dx [])) D (.dK (kwV ks zs)) x = some (.ins T.c_Book dx []) := by
    have nxD : x ≠ D := fun z => by
      rw [← z, upd_same] at nD
      cases nD
    rw [upd_ne nxD, upd_same]
  refine ⟨x, D, dx, _, b, rfl, hx, upd_same, rows.same s3, raw, fun G bk keep => ⟨rfl, k x G nx (fun y u hy => keep y u ?_ (s3 _ _ hy)) bk⟩⟩
  exact ne_of_none hy nx
theorem none_of_same {H G : Hp} {a : Addr} (s : Same H G) (n : G a = none) : H a = none := by
  cases e0 : H a with
  | none => rfl
  | some u =>
    rw [s _ _ e0] at n
    cases n
def sp_book_withF (T : Txt K mg) : Sp := fun vs H Q _ => ∃ (p : Addr) (kvs : List (Key × V)) (b : PB), vs = [.ref p] ∧ H p = some (.dK kvs) ∧ RowsAt H kvs b ∧ GoodB b ∧ ∀ a G, H a = none → Same H G → BookAt T G a b → (∃ dx o, H o = none ∧ G a = some (.ins T.c_Book dx [("_pairs", .ref p), ("_outcomes", .ref o)])) → Q (.ref a) G
theorem ok_book_withF (T : Txt K mg) : FnG prog0 w K mg base CX0 9 T.a_book_with T.d_book_with ["pairs"] (sp_book_withF T) := by
  have GK_Book_only : FnKW prog0 w K mg base CX0 6 T.a_Book___init__ ["only"] (sp_init T) := gk_only T
  have G_outcomes_in : FnG prog0 w K mg base CX0 1 T.a_outcomes_in T.d_outcomes_in ["pairs"] sp_outcomes_in := ok_outcomes_in T
  refine okG T.F_book_with sc_book_with (fun vs H Q E h => ?_) (fun cdv A fs s H vs Q E hr h => ?_)
  · obtain ⟨p, kvs, b, rfl, _⟩ := h
    rfl
  obtain ⟨p, kvs, b, rfl, ep, rows, gb, k⟩ := h
  have nd := sc_book_with.nd
  refine ⟨_, ((pss_cons (ps_set (i := 1) nd rfl (Or.inl rfl) (pe_makeKW T.k_Book GK_Book_only (hr.down (by decide)) rfl T.m_Book pass0 (pk_cons (pe_tup (pa_cons pe_int (pa_cons (pe_tup (pa_cons pe_str pa_nil)) pa_nil))) pk_nil)))
  (pss_cons (ps_fld (pv 1) (pv 0) rfl)
  (pss_cons (ps_fld (pv 1) (pe_callG G_outcomes_in (hr.down (by decide)) rfl T.m_outcomes_in T.F_outcomes_in.kp T.b_outcomes_in .nil pass0 (pa_cons (pv 0) pa_nil)) rfl)
  (pss_one (ps_ret (pv 1))))))), ?_⟩
  walk_at "s"
  refine l_newT (by show 1 ≤ sizeLine; decide) fun t G nt st et => ?_
  walk_at "s"
  refine l_newT (by show 2 ≤ sizeLine; decide) fun q G2 nq sq eq => ?_
  walk_at "s"
  have rw1 : RowsAt G2 (kwV ["only"] [.ref q]) [("only", 0, ["ok"])] := .cons ⟨rfl, q, t, rfl, eq, sq _ _ et⟩ .nil
  have raw1 : RawB [("only", 0, ["ok"])] := by
    refine ⟨by decide +kernel, fun x hx => ?_, fun x hx => ?_, by decide, by decide⟩
    · obtain rfl := List.mem_singleton.mp hx
      decide +kernel
    · obtain rfl := List.mem_singleton.mp hx
      refine ⟨by decide, List.pairwise_singleton _ _, by decide, by decide, fun s hs => ?_⟩
      obtain rfl := List.mem_singleton.mp hs
      decide +kernel
  refine l_makeBook rfl rw1 raw1 fun x G3 nx s3 bk => ?_
  have sx : Same H G3 := (st.trans sq).trans s3
  have hxn : H x = none := by
    cases e0 : H x with
    | none => rfl
    | some u =>
      rw [(st.trans sq) _ _ e0] at nx
      cases nx
  obtain ⟨dx, p0, o0, kvs0, ows0, h1, h2, h3, h4, h5, h6⟩ := bk
  walk_at "s"
  refine l_setf h1 T.o_Book.cl T.n_Book__pairs (by show 2 < 1000; decide) ?_
  rw [put2]
  walk_at "s"
  have ux : Same H (upd G3 x (.ins T.c_Book dx [("_pairs", .ref p), ("_outcomes", .ref o0)])) := Same.setNew sx hxn
  refine ⟨p, kvs, b, rfl, ux _ _ ep, rows.same ux, gb.raw, fun o G4 ows no so ro eo => ?_⟩
  walk_at "s"
  have g4 := so _ _ (upd_same (H := G3) (a := x))
  refine l_setf g4 T.o_Book.cl T.n_Book__outcomes (by show 2 < 1000; decide) ?_
  rw [put3]
  walk_at "s"
  have fin : Same H (upd G4 x (.ins T.c_Book dx [("_pairs", .ref p), ("_outcomes", .ref o)])) := Same.setNew (ux.trans so) hxn
  have hox : o ≠ x := fun z => by
    rw [z, upd_same] at no
    cases no
  exact k x _ hxn fin ⟨dx, p, o, kvs, ows, upd_same, fin _ _ ep, by rw [upd_ne hox]; exact eo, rows.same fin, ro.set g4 (fun _ z => by cases z), gb⟩ ⟨dx, o, none_of_same ux no, upd_same⟩
def sp_book_with (T : Txt K mg) : Sp := fun vs H Q _ => ∃ (p : Addr) (kvs : List (Key × V)) (b : PB), vs = [.ref p] ∧ H p = some (.dK kvs) ∧ RowsAt H kvs b ∧ GoodB b ∧ ∀ a G, H a = none → Same H G → BookAt T G a b → Q (.ref a) G
theorem ok_book_with (T : Txt K mg) : FnG prog0 w K mg base CX0 9 T.a_book_with T.d_book_with ["pairs"] (sp_book_with T) := (ok_book_withF T).weaker fun vs H Q E h => by
  obtain ⟨p, kvs, b, e, h1, h2, h3, k⟩ := h
  exact ⟨p, kvs, b, e, h1, h2, h3, fun a G n s bk _ => k a G n s bk⟩
def sp_ofF (T : Txt K mg) : Sp := fun vs H Q _ => ∃ (c : V) (p : Addr) (kvs : List (Key × V)) (b : PB), vs = [c, .ref p] ∧ H p = some (.dK kvs) ∧ RowsAt H kvs b ∧ RawB b ∧ ∀ a G, H a = none → Same H G → BookAt T G a (sortB b) → (∃ dx p o, H p = none ∧ H o = none ∧ G a = some (.ins T.c_Book dx [("_pairs", .ref p), ("_outcomes", .ref o)])) → Q (.ref a) G
theorem ok_Book_ofF (T : Txt K mg) : FnG prog0 w K mg base CX0 11 T.a_Book_of T.d_Book_of ["cls", "commands"] (sp_ofF T) := by
  have G_book_with : FnG prog0 w K mg base CX0 9 T.a_book_with T.d_book_with ["pairs"] (sp_book_withF T) := ok_book_withF T
  have G_checked_pairs : FnG prog0 w K mg base CX0 4 T.a_checked_pairs T.d_checked_pairs ["commands"] sp_checked_pairs := ok_checked_pairs T
  refine okG T.F_Book_of sc_Book_of (fun vs H Q E h => ?_) (fun cdv A fs s H vs Q E hr h => ?_)
  · obtain ⟨c, p, kvs, b, rfl, _⟩ := h
    rfl
  obtain ⟨c, p, kvs, b, rfl, ep, rows, raw, k⟩ := h
  have nd := sc_Book_of.nd
  refine ⟨_, ((pss_one (ps_ret (pe_callG G_book_with (hr.down (by decide)) rfl T.m_book_with T.F_book_with.kp T.b_book_with .nil pass0 (pa_cons (pe_callG G_checked_pairs (hr.down (by decide)) rfl T.m_checked_pairs T.F_checked_pairs.kp T.b_checked_pairs .nil pass0 (pa_cons (pv 1) pa_nil)) pa_nil))))), ?_⟩
  walk_at "s"
  refine ⟨p, kvs, b, rfl, ep, rows, raw, fun D G ws nD sD rD eD => ?_⟩
  walk_at "s"
  refine ⟨D, ws, sortB b, rfl, eD, rD, raw.sort, fun a G2 na sa bk fr => ?_⟩
  obtain ⟨dx, o, no, ea⟩ := fr
  exact k a G2 (none_of_same sD na) (sD.trans sa) bk ⟨dx, D, o, nD, none_of_same sD no, ea⟩
def sp_of (T : Txt K mg) : Sp := fun vs H Q _ => ∃ (c : V) (p : Addr) (kvs : List (Key × V)) (b : PB), vs = [c, .ref p] ∧ H p = some (.dK kvs) ∧ RowsAt H kvs b ∧ RawB b ∧ ∀ a G, H a = none → Same H G → BookAt T G a (sortB b) → Q (.ref a) G
theorem ok_Book_of (T : Txt K mg) : FnG prog0 w K mg base CX0 11 T.a_Book_of T.d_Book_of ["cls", "commands"] (sp_of T) := (ok_Book_ofF T).weaker fun vs H Q E h => by
  obtain ⟨c, p, kvs, b, e, h1, h2, h3, k⟩ := h
  exact ⟨c, p, kvs, b, e, h1, h2, h3, fun a G n s bk _ => k a G n s bk⟩
end
section
variable {w : World} {K : PySem.W.Frag} {mg : Str → Option Value} {base : Heap}
def sp_need_book (T : Txt K mg) : Sp := fun vs H Q E => ∃ y : V, vs = [y] ∧ OrBook T H y (fun _ => Q .non H) (E (.ref T.c_InvalidBook) none H)
theorem ok_need_book (T : Txt K mg) : FnG prog0 w K mg base (L2.CX prog0 w) 3 T.a_need_book T.d_need_book ["book"] (sp_need_book T) := by
  refine okGX T.F_need_book sc_need_book (fun vs H Q E h => ?_) (fun cdv A fs s H vs Q E hr h tk => ?_)
  · obtain ⟨y, rfl, _⟩ := h
    rfl
  obtain ⟨y, rfl, k⟩ := h
  have nd := sc_need_book.nd
  refine ⟨_, ((pss_one (ps_if (pt_not (pt_val (pe_callB call_isi (by rfl) T.z_isinstance (by decide +kernel) (pa_cons (pv 0) (pa_cons (pe_glob (v := .ref T.c_Book) rfl T.m_Book rfl) pa_nil))))) (pss_one (ps_raise rfl tk (pmk_make0 F.excBase_ValueError T.e_InvalidBook.q T.e_InvalidBook.m T.e_InvalidBook.kC (raises_own T.e_InvalidBook.ec.hs T.e_InvalidBook.ty) rfl pe_str))) pss_nil))), ?_⟩
  walk_at "s"
  rcases k with ⟨c, b2, rfl, bk2, k⟩ | ⟨ky, k⟩
  · obtain ⟨dx2, p2, o2, kvs2, ows2, g1, g2⟩ := id bk2
    refine l_isOwn T.o_Book g1 ?_
    walk_at "s"
    refine i_f rfl ?_
    walk_at "s"
    exact k
  · refine l_notOwn T.o_Book ky ?_
    walk_at "s"
    refine i_t rfl ?_
    walk_at "s"
    exact k
end
section
variable {P : Program} {w : World} {K : PySem.W.Frag} {mg : Str → Option Value} {base : Heap}
def sp__law_dice (K : PySem.W.Frag) : Sp := fun vs H Q _ => ∃ (a : Addr) (ns : List Int) (i : Int), vs = [.ref a, .int i] ∧ SqL K H a (ns.map V.int) ∧ 0 ≤ i ∧
  ∀ p H', H p = none → Same H H' → DiceAt H' p → Q (.ref p) H'
theorem map_int_at {ns : List Int} {x : V} (h : x ∈ ns.map V.int) : ∃ z, x = .int z := by
  obtain ⟨z, _, e⟩ := List.mem_map.mp h
  exact ⟨z, e.symm⟩
theorem ok__law_dice (T : Txt K mg) : FnG P w K mg base CX0 1 T.a__law_dice T.d__law_dice ["script", "at"] (sp__law_dice K) := by
  refine okG T.F__law_dice sc__law_dice (fun vs H Q E h => ?_) (fun cdv A fs s H vs Q E hr h => ?_)
  · obtain ⟨a, ns, i, rfl, _⟩ := h
    rfl
  obtain ⟨a, ns, i, rfl, hS, h0, k⟩ := h
  have nd := sc__law_dice.nd
  refine ⟨_, ((pss_cons (ps_set (i := 2) nd rfl (Or.inl rfl) (pe_op op_add (pe_op op_mul pe_int (pv 1)) pe_int))
  (pss_cons (ps_if (pt_cmpR op_lt (pv 1) (pe_callB c_len (by rfl) T.z_len (by decide +kernel) (pa_cons (pv 0) pa_nil)) (nomark _)) (pss_one (ps_set (i := 2) nd rfl (Or.inl rfl) (pe_ix ix_list (pv 0) (pv 1) (fun _ _ => rfl)))) pss_nil)
  (pss_cons (ps_set (i := 3) nd rfl (Or.inl rfl) (pe_op op_mod (pe_callTy c_int (by rfl) T.z_int (by decide +kernel) (pa_cons (pe_callB c_abs (by rfl) T.z_abs (by decide +kernel) (pa_cons (pv 2) pa_nil)) pa_nil)) (pe_op op_powW (pe_op op_powW pe_int pe_int) pe_int)))
  (pss_cons (ps_set (i := 4) nd rfl (Or.inl rfl) (pe_op op_add (pe_op op_add (pe_op op_add (pe_op op_mul (pe_op op_mod (pe_callTy c_int (by rfl) T.z_int (by decide +kernel) (pa_cons (pv 3) pa_nil)) pe_int) pe_int) (pe_op op_mul pe_int (pv 1))) (pe_op op_mul pe_int (pe_callTy c_int (by rfl) T.z_int (by decide +kernel) (pa_cons (pe_cmpR op_lt (pv 2) pe_int (nomark _)) pa_nil)))) pe_int))
  (pss_one (ps_ret (pe_lst (pa_cons (pe_callB (c_max2 rfl) (by rfl) T.z_max (by decide +kernel) (pa_cons pe_int (pa_cons (pe_op op_sub (pv 3) (pe_op op_powW pe_int pe_int)) pa_nil))) (pa_cons (pe_op op_mod (pe_callTy c_int (by rfl) T.z_int (by decide +kernel) (pa_cons (pv 4) pa_nil)) pe_int) (pa_cons pe_int pa_nil))))))))))), ?_⟩
  walk_at "s"
  refine i_dec (fun c => ?_) (fun c => ?_)
  · obtain ⟨x, hx, _, hi⟩ := at_in (xs := ns.map V.int) h0 c
    obtain ⟨z, rfl⟩ := map_int_at hx
    walk_at "s"
    refine l_ixL hS hi ?_
    walk_at "s"
    refine ⟨by show 3 ≤ sizeLine; decide, fun p np => ?_⟩
    exact k p _ np (Same.upd0 np) ⟨_, _, _, upd_same⟩
  · walk_at "s"
    refine ⟨by show 3 ≤ sizeLine; decide, fun p np => ?_⟩
    exact k p _ np (Same.upd0 np) ⟨_, _, _, upd_same⟩

def sp__law_roll : Sp := fun vs H Q _ => ∃ (d : Addr) (t : Int), vs = [.ref d, .int t] ∧ DiceAt H d ∧ 0 < t ∧ t < 1000000000000000001 ∧ ∀ r H', 0 ≤ r → r < t → Dc d H H' → Q (.int r) H'
theorem dice_set {d : Addr} {H : Hp} {a b c : Int} (h : H d = some (.lst [.int a, .int b, .int c])) (x y z : Int) : Dc d H (upd H d (.lst [.int x, .int y, .int z])) :=
  ⟨(Keep.refl H).set, x, y, z, upd_same⟩
theorem l_set3 {d : Addr} {H : Hp} {xs ys : List V} {x : V} {i : Int} {j : Nat} {Q : Hp → Prop} (h : H d = some (.lst xs)) (hj : ixN xs.length i = some j) (e : xs.set j x = ys) (q : Q (upd H d (.lst ys))) :
    rSetL (.ref d) (.int i) x H Q := by
  subst e
  exact ⟨d, xs, i, j, rfl, rfl, h, hj, q⟩
theorem ok__law_roll (T : Txt K mg) : FnG P w K mg base CX0 1 T.a__law_roll T.d__law_roll ["dice", "total"] sp__law_roll := by
  refine okG T.F__law_roll sc__law_roll (fun vs H Q E h => ?_) (fun cdv A fs s H vs Q E hr h => ?_)
  · obtain ⟨d, t, rfl, _⟩ := h
    rfl
  obtain ⟨d, t, rfl, ⟨x, y, z, hd⟩, t0, t1, k⟩ := h
  have nd := sc__law_roll.nd
  have dv : CDivW (x : Int) t := ⟨t0, by omega⟩
  have i0 : atI ([.int x, .int y, .int z] : List V) 0 = some (.int x) := rfl
  have i1 : atI ([.int x, .int y, .int z] : List V) 1 = some (.int y) := rfl
  have i2 : atI ([.int x, .int y, .int z] : List V) 2 = some (.int z) := rfl
  refine ⟨_, ((pss_cons (ps_if (pt_cmpR op_gt (pe_ix ix_list (pv 0) pe_int (fun _ _ => rfl)) pe_int (nomark _)) (pss_cons (ps_set (i := 2) nd rfl (Or.inl rfl) (pe_op op_mod (pe_callTy c_int (by rfl) T.z_int (by decide +kernel) (pa_cons (pe_ix ix_list (pv 0) pe_int (fun _ _ => rfl)) pa_nil)) (pv 1)))
  (pss_cons (ps_asg (pe_op op_fdivW (pe_ix ix_list (pv 0) pe_int (fun _ _ => rfl)) (pv 1)) (pg_sub (pv 0) pe_int set_list))
  (pss_one (ps_ret (pv 2))))) pss_nil)
  (pss_cons (ps_asg (pe_op op_add (pe_ix ix_list (pv 0) pe_int (fun _ _ => rfl)) pe_int) (pg_sub (pv 0) pe_int set_list))
  (pss_cons (ps_set (i := 3) nd rfl (Or.inl rfl) (pe_op op_mod (pe_callTy c_int (by rfl) T.z_int (by decide +kernel) (pa_cons (pe_op op_add (pe_ix ix_list (pv 0) pe_int (fun _ _ => rfl)) (pe_op op_mul pe_int (pe_ix ix_list (pv 0) pe_int (fun _ _ => rfl)))) pa_nil)) pe_int))
  (pss_cons (ps_set (i := 4) nd rfl (Or.inl rfl) (pe_op op_add (pe_op op_mul (pe_op op_mod (pe_callTy c_int (by rfl) T.z_int (by decide +kernel) (pa_cons (pe_op op_mul (pv 3) (pv 3)) pa_nil)) pe_int) (pv 3)) (pe_op op_mul pe_int (pe_ix ix_list (pv 0) pe_int (fun _ _ => rfl)))))
  (pss_cons (ps_set (i := 4) nd rfl (Or.inl rfl) (pe_op op_mod (pe_callTy c_int (by rfl) T.z_int (by decide +kernel) (pa_cons (pv 4) pa_nil)) pe_int))
  (pss_one (ps_ret (pe_op op_mod (pe_callTy c_int (by rfl) T.z_int (by decide +kernel) (pa_cons (pe_op op_fdivW (pv 4) pe_int) pa_nil)) (pv 1)))))))))), ?_⟩
  walk_at "s"
  refine l_ixL (SqL.of hd) i0 ?_
  walk_at "s"
  refine i_dec (fun c => ?_) (fun c => ?_)
  · walk_at "s"
    refine l_ixL (SqL.of hd) i0 ?_
    walk_at "s"
    refine l_ixL (SqL.of hd) i0 ?_
    walk_at "s"
    refine l_set3 hd (j := 0) rfl rfl ?_
    walk_at "s"
    exact k _ _ (Int.emod_nonneg _ (by omega)) (Int.emod_lt_of_pos _ t0) (dice_set hd _ _ _)
  · walk_at "s"
    refine l_ixL (SqL.of hd) i2 ?_
    walk_at "s"
    refine l_set3 hd (j := 2) rfl rfl ?_
    have hd' : (upd H d (.lst [.int x, .int y, .int (z + 1)])) d = some (.lst [.int x, .int y, .int (z + 1)]) := upd_same
    have j1 : atI ([.int x, .int y, .int (z + 1)] : List V) 1 = some (.int y) := rfl
    have j2 : atI ([.int x, .int y, .int (z + 1)] : List V) 2 = some (.int (z + 1)) := rfl
    walk_at "s"
    refine l_ixL (SqL.of hd') j1 ?_
    walk_at "s"
    refine l_ixL (SqL.of hd') j2 ?_
    walk_at "s"
    refine l_ixL (SqL.of hd') j2 ?_
    walk_at "s"
    exact k _ _ (Int.emod_nonneg _ (by omega)) (Int.emod_lt_of_pos _ t0) (dice_set hd _ _ _)
end
section
variable {P : Program} {w : World} {K : PySem.W.Frag} {mg : Str → Option Value} {base : Heap}
def sp__law_one_of (K : PySem.W.Frag) : Sp := fun vs H Q _ => ∃ (d l : Addr) (xs : List V), vs = [.ref d, .ref l] ∧ DiceAt H d ∧ SqL K H l xs ∧ l ≠ d ∧ 0 < xs.length ∧ xs.length < 1000000 ∧
  ∀ x H', x ∈ xs → Dc d H H' → Q x H'
theorem ok__law_one_of (T : Txt K mg) : FnG P w K mg base CX0 2 T.a__law_one_of T.d__law_one_of ["dice", "items"] (sp__law_one_of K) := by
  have G__law_roll : FnG P w K mg base CX0 1 T.a__law_roll T.d__law_roll ["dice", "total"] sp__law_roll := ok__law_roll T
  refine okG T.F__law_one_of sc__law_one_of (fun vs H Q E h => ?_) (fun cdv A fs s H vs Q E hr h => ?_)
  · obtain ⟨d, l, xs, rfl, _⟩ := h
    rfl
  obtain ⟨d, l, xs, rfl, hd, hl, ne, n0, n1, k⟩ := h
  have nd := sc__law_one_of.nd
  refine ⟨_, ((pss_one (ps_ret (pe_ix ix_list (pv 1) (pe_callG G__law_roll (hr.down (by decide)) rfl T.m__law_roll T.F__law_roll.kp T.b__law_roll .nil pass0 (pa_cons (pv 0) (pa_cons (pe_callB c_len (by rfl) T.z_len (by decide +kernel) (pa_cons (pv 1) pa_nil)) pa_nil))) (fun _ _ => rfl))))), ?_⟩
  walk_at "s"
  refine ⟨d, _, rfl, hd, by omega, by omega, fun r H' h0 h1 dc => ?_⟩
  obtain ⟨x, hx, _, hi⟩ := at_in (xs := xs) h0 h1
  exact l_ixL (sql_keep dc.keep ne hl) hi (k x H' hx dc)
end
section
variable {P : Program} {w : World} {K : PySem.W.Frag} {mg : Str → Option Value} {base : Heap}
/-! ### drawn names -/
def abcN : Str := "abcdefghijklmnopqrstuvwxyz"
def resN : List Str := ["failed", "kept", "skipped", "undone"]
/-- a text of small letters, 1 to 8 -/
def NameOk (y : Str) : Prop := 1 ≤ y.length ∧ y.length ≤ 8 ∧ ∀ c ∈ y.cps.toList, 97 ≤ c ∧ c ≤ 122
instance {y : Str} : Decidable (NameOk y) := inferInstanceAs (Decidable (1 ≤ y.length ∧ y.length ≤ 8 ∧ ∀ c ∈ y.cps.toList, 97 ≤ c ∧ c ≤ 122))
def sp__law_name (K : PySem.W.Frag) : Sp := fun vs H Q _ => ∃ (d t : Addr) (ys : List Str), vs = [.ref d, .ref t] ∧ DiceAt H d ∧ SqL K H t (ys.map V.str) ∧ t ≠ d ∧ ys.length ≤ 20 ∧
  ∀ y G, NameOk y → y ∉ ys → y ∉ resN → Dc d H G → Q (.str y) G
theorem pigeon : ∀ (ys l : List Str), l.Nodup → ys.length < l.length → ∃ x ∈ l, x ∉ ys
  | [], x :: l, _, _ => ⟨x, List.mem_cons_self, nofun⟩
  | [], [], _, h => absurd h (by decide)
  | y :: ys, l, nd, h => by
    have len : ys.length < (l.erase y).length := by
      have := List.length_erase (a := y) (l := l)
      rw [this]
      rw [List.length_cons] at h
      split <;> omega
    obtain ⟨x, hx, hn⟩ := pigeon ys (l.erase y) (nd.erase y) len
    rw [nd.mem_erase_iff] at hx
    refine ⟨x, hx.2, fun z => ?_⟩
    rcases List.mem_cons.mp z with e | e
    · exact hx.1 e
    · exact hn e
def qN : List Str := abcN.cps.toList.map fun c => ("q" : Str) ++ (⟨#[c]⟩ : Str)
theorem qN_nodup : qN.Nodup := by decide +kernel
theorem qN_len : qN.length = 26 := by decide +kernel
theorem qN_ok : ∀ y ∈ qN, NameOk y ∧ y ∉ resN := by decide +kernel
theorem in_strs (ys : List Str) (s : Str) : inV (.str s) (ys.map V.str) = ys.any fun y => y == s := by
  unfold inV
  rw [List.any_map]
  rfl
theorem strs_flat (l : List Str) : (l.map V.str).all flatV = true := by
  rw [List.all_map, List.all_eq_true]
  intro _ _
  rfl
theorem l_ninL {p : Addr} {ys : List Str} {s : Str} {H : Hp} {Q : VK} (h : SqL K H p (ys.map V.str) ∨ SqT K H p (ys.map V.str)) (q : Q (.bl (!(ys.any fun y => y == s))) H) : rIn K true (.str s) (.ref p) H Q :=
  ⟨p, _, rfl, h, rfl, strs_flat _, by rw [if_pos rfl, in_strs]; exact q⟩
theorem any_mem {ys : List Str} {s : Str} : (!(ys.any fun y => y == s)) = decide (s ∉ ys) := by
  by_cases h : s ∈ ys
  · have e : (ys.any fun y => y == s) = true := List.any_eq_true.mpr ⟨s, h, by simp⟩
    rw [e, decide_eq_false (fun n => n h)]
    rfl
  · have e : (ys.any fun y => y == s) = false := by
      rw [List.any_eq_false]
      intro y hy z
      have : y = s := by simpa using z
      exact h (this ▸ hy)
    rw [e, decide_eq_true h]
    rfl
def freeB (ys : List Str) : V → Bool := fun v => match v with
  | .str s => !(ys.any fun y => y == s) && !(resN.any fun y => y == s)
  | _ => false
def qOf : V → V := fun v => match v with
  | .str s => .str (("q" : Str) ++ s)
  | x => x
theorem abc_at {r : Int} (h0 : 0 ≤ r) (h1 : r < 26) : ∃ c, atI abcN.cps.toList r = some c ∧ 97 ≤ c ∧ c ≤ 122 := by
  have all : ∀ k : Fin 26, ∃ c, abcN.cps.toList[k.val]? = some c ∧ 97 ≤ c ∧ c ≤ 122 := by
    intro k
    have h : ∀ k : Fin 26, abcN.cps.toList[k.val]? = some (k.val + 97) := by decide +kernel
    exact ⟨_, h k, by omega, by have := k.isLt; omega⟩
  obtain ⟨c, hc, h2⟩ := all ⟨r.toNat, by omega⟩
  refine ⟨c, ?_, h2⟩
  have e : atI abcN.cps.toList ((r.toNat : Nat) : Int) = some c := atI_nat hc
  rwa [Int.toNat_of_nonneg h0] at e
theorem name_app {n : Nat} {z : Str} {c : Nat} (h : z.length = n ∧ ∀ c ∈ z.cps.toList, 97 ≤ c ∧ c ≤ 122) (hc : 97 ≤ c ∧ c ≤ 122) : (z ++ (⟨#[c]⟩ : Str)).length = n + 1 ∧ ∀ x ∈ (z ++ (⟨#[c]⟩ : Str)).cps.toList, 97 ≤ x ∧ x ≤ 122 := by
  refine ⟨?_, fun x hx => ?_⟩
  · rw [append_len, h.1]
    rfl
  · rcases append_mem hx with q | q
    · exact h.2 x q
    · have e : x = c := by simpa using q
      rw [e]
      exact hc
theorem ok__law_name (T : Txt K mg) : FnG P w K mg base CX0 3 T.a__law_name T.d__law_name ["dice", "taken"] (sp__law_name K) := by
  have G__law_roll : FnG P w K mg base CX0 1 T.a__law_roll T.d__law_roll ["dice", "total"] sp__law_roll := ok__law_roll T
  have G__law_one_of : FnG P w K mg base CX0 2 T.a__law_one_of T.d__law_one_of ["dice", "items"] (sp__law_one_of K) := ok__law_one_of T
  have HP := @PassesOwn.never
  refine okG T.F__law_name sc__law_name (fun vs H Q E h => ?_) (fun cdv A fs s H vs Q E hr h => ?_)
  · obtain ⟨d, t, ys, rfl, _⟩ := h
    rfl
  obtain ⟨d, t, ys, rfl, hd, ht, ne, hz, k⟩ := h
  have nd := sc__law_name.nd
  refine ⟨_, ((pss_cons (ps_asg (pe_tup (pa_cons pe_str (pa_cons pe_str pa_nil))) (pg_tup (by rfl) (pgs_cons (pg_name (i := 2) nd rfl (Or.inl rfl)) (pgs_cons (pg_name (i := 3) nd rfl (Or.inl rfl)) pgs_nil))))
  (pss_cons (ps_for HP rfl (pi_range1 rfl T.z_range (pa_cons (pe_callG G__law_one_of (hr.down (by decide)) rfl T.m__law_one_of T.F__law_one_of.kp T.b__law_one_of .nil pass0 (pa_cons (pv 0) (pa_cons (pe_lst (pa_consts (by rfl))) pa_nil))) pa_nil)) (pg_name (i := 4) nd rfl (Or.inl rfl)) (pss_one (ps_set (i := 3) nd rfl (Or.inl rfl) (pe_op o_addS (pv 3) (pe_ix ix_str (pv 2) (pe_callG G__law_roll (hr.down (by decide)) rfl T.m__law_roll T.F__law_roll.kp T.b__law_roll .nil pass0 (pa_cons (pv 0) (pa_cons pe_int pa_nil))) (fun _ _ => rfl))))))
  (pss_cons (ps_set (i := 5) nd rfl (Or.inl rfl) (pe_op op_cat (pe_lst (pa_cons (pv 3) pa_nil)) (pe_lc (own := [("letter", 6)]) rfl nd (pi_str (pv 2)) (blkOk_by (own := [("letter", 6)]) (N := ["dice", "taken", "letters", "word", "turn", "spare", "letter", "one"]) (sc := defScope s__law_name) (by decide +kernel)) (fun _ _ _ _ _ => pg_name (i := 6) nd rfl (Or.inl rfl)) (fun _ _ _ _ _ => pts_nil) (fun _ _ _ _ _ => by exact (pe_op o_addS pe_str (pv 6))))))
  (pss_one (ps_ret (pe_ix ix_list (pe_lc (own := [("one", 7)]) rfl nd (pi_list (pv 5)) (blkOk_by (own := [("one", 7)]) (N := ["dice", "taken", "letters", "word", "turn", "spare", "letter", "one"]) (sc := defScope s__law_name) (by decide +kernel)) (fun _ _ _ _ _ => pg_name (i := 7) nd rfl (Or.inl rfl)) (fun _ _ _ _ _ => by exact (pts_one (PW.pt (pw_and (pt_cmpR (show OpR _ _ (rIn K true) from op_notIn_seq) (pv 7) (pv 1) (by rfl)) (pw_and1 (pt_cmpR (show OpR _ _ (rIn K true) from op_notIn_seq) (pv 7) (pe_tup (pa_consts (by rfl))) (by rfl))))))) (fun _ _ _ _ _ => by exact (pv 7))) pe_int (fun _ _ => rfl)))))))), ?_⟩
  walk_at "s"
  refine l_newT (by show 2 ≤ sizeLine; decide) fun p9 G9 np9 sp9 ep9 => ?_
  walk_at "s"
  refine l_gtup (SqT.of ep9) rfl ?_
  walk_at "s"
  refine l_newL (by show 7 ≤ sizeLine; decide) fun p G0 np sp ep => ?_
  have dc9 := (Dc.refl hd).same sp9
  have dc0 := dc9.same sp
  have nep : p ≠ d := fun e => (dc9.dice.ne np) e.symm
  refine ⟨d, p, _, rfl, dc0.dice, SqL.of ep, nep, by show 0 < 7; decide, by show 7 < 1000000; decide, fun x G1 hx dc1 => ?_⟩
  have dc1' := dc0.trans dc1
  obtain ⟨n, rfl, n1, n2⟩ : ∃ n : Nat, x = .int (n : Int) ∧ 1 ≤ n ∧ n ≤ 8 := by
    have h : ∀ x ∈ ([.int 1, .int 1, .int 2, .int 3, .int 4, .int 6, .int 8] : List V), ∃ n : Nat, x = .int (n : Int) ∧ 1 ≤ n ∧ n ≤ 8 := by
      intro x hx
      simp only [List.mem_cons, List.not_mem_nil, or_false] at hx
      rcases hx with rfl | rfl | rfl | rfl | rfl | rfl | rfl
      · exact ⟨1, rfl, by decide, by decide⟩
      · exact ⟨1, rfl, by decide, by decide⟩
      · exact ⟨2, rfl, by decide, by decide⟩
      · exact ⟨3, rfl, by decide, by decide⟩
      · exact ⟨4, rfl, by decide, by decide⟩
      · exact ⟨6, rfl, by decide, by decide⟩
      · exact ⟨8, rfl, by decide, by decide⟩
    exact h x hx
  have sg : abcN.length ≤ sizeLine := by rw [sizeLine_eq]; decide +kernel
  refine l_forR (by omega) (by omega) (fun i σ G => ∃ (z : Str) (u : Option V), σ = [some (.ref d), some (.ref t), some (.str abcN), some (.str z), u, none, none, none] ∧ (z.length = i ∧ ∀ c ∈ z.cps.toList, 97 ≤ c ∧ c ≤ 122) ∧ Dc d H G) ⟨_, _, rfl, ⟨rfl, fun c hc => nomatch hc⟩, dc1'⟩ ?_ ?_
  · rintro i σ G hi ⟨z, u, rfl, hz, dc⟩
    have hz2 : z.length + 1 ≤ sizeLine := by rw [sizeLine_eq, hz.1]; omega
    walk_at "s"
    refine ⟨d, 26, rfl, dc.dice, by decide, by decide, fun r G2 r0 r1 dc2 => ?_⟩
    obtain ⟨c, hc, hc2⟩ := abc_at r0 r1
    refine l_ixS sg hc ?_
    refine l_addS hz2 ?_
    walk_at "s"
    exact ⟨_, _, rfl, name_app hz hc2, dc.trans dc2⟩
  · rintro σ G ⟨z, u, rfl, hz0, dc⟩
    have zl : z.length = n := by have := hz0.1; omega
    have zok : NameOk z := ⟨by omega, by omega, hz0.2⟩
    walk_at "s"
    refine l_newL (by show 1 ≤ sizeLine; decide) fun p1 J1 np1 s1 e1 => ?_
    walk_at "s"
    refine l_lcS (fun _ => true) qOf (by decide +kernel) (fun c _ G' _ R r => ?_) (fun c hc _ G' _ R r => ?_) (fun D J2 _ s2 e2 => ?_)
    · exact s_yes (r G' (Same.refl G'))
    · exact s_op (s_c (s_var rfl (l_addS (by show 1 + 1 ≤ sizeLine; decide) (r G' (Same.refl G')))))
    · have eq1 : (((abcN.cps.toList.map signV).filter fun _ => true).map qOf) = qN.map V.str := by
        rw [List.filter_eq_self.mpr (fun _ _ => rfl), List.map_map]
        unfold qN
        rw [List.map_map]
        rfl
      have e2' : J2 D = some (.lst (qN.map V.str)) := e2.trans (congrArg (fun l => some (HO.lst l)) eq1)
      refine l_cat (s2 _ _ e1) e2' (by rw [List.length_map, qN_len, sizeLine_eq]; show 1 + 26 ≤ _; decide) fun p2 J3 np2 s3 e3 => ?_
      have e3' : J3 p2 = some (.lst ((z :: qN).map V.str)) := e3
      have dc3 := ((dc.same s1).same s2).same s3
      walk_at "s"
      have st : ∀ J, Same J3 J → SqL K J t (ys.map V.str) := fun J sJ => sJ.seq (sql_keep dc3.keep ne ht)
      refine l_lcL (SqL.of e3') (freeB ys) (fun v => v) (by rw [List.length_map, List.length_cons, qN_len]; decide) (fun x hx G' sG R r => ?_) (fun x hx _ G' _ R r => ?_) (fun D2 J4 _ s4 e4 => ?_)
      · obtain ⟨y, _, rfl⟩ := List.mem_map.mp hx
        refine s_and (s_test (s_op (s_var rfl (s_var rfl (l_ninL (Or.inl (st G' sG)) ?_)))))
        refine l_bl (i_b (fun e => ?_) (fun e => ?_))
        · refine s_test (s_op (s_var rfl (s_tup (s_consts ?_))))
          refine l_newT (by show 4 ≤ sizeLine; decide) fun p5 G5 np5 sp5 ep5 => ?_
          refine l_ninL (ys := resN) (Or.inr (SqT.of ep5)) ?_
          have q : freeB ys (.str y) = !(resN.any fun x => x == y) := by
            show (!(ys.any fun x => x == y) && _) = _
            rw [e, Bool.true_and]
          rw [q] at r
          exact l_bl (r G5 sp5)
        · have q : freeB ys (.str y) = false := by
            show (!(ys.any fun x => x == y) && _) = false
            rw [e]
            rfl
          rw [q] at r
          exact r G' (Same.refl G')
      · exact s_var rfl (r G' (Same.refl G'))
      · have eq2 : (((z :: qN).map V.str).filter (freeB ys)).map (fun v => v) = ((z :: qN).filter fun s => freeB ys (.str s)).map V.str := by
          rw [List.map_id', List.filter_map]
          rfl
        have e4' : J4 D2 = some (.lst (((z :: qN).filter fun s => freeB ys (.str s)).map V.str)) := e4.trans (congrArg (fun l => some (HO.lst l)) eq2)
        have free_iff : ∀ s : Str, freeB ys (.str s) = true ↔ s ∉ ys ∧ s ∉ resN := by
          intro s
          show (!(ys.any fun y => y == s) && !(resN.any fun y => y == s)) = true ↔ _
          rw [any_mem, any_mem, Bool.and_eq_true, decide_eq_true_eq, decide_eq_true_eq]
        obtain ⟨x, hx, hn⟩ := pigeon ys qN qN_nodup (by rw [qN_len]; omega)
        have mem : x ∈ (z :: qN).filter fun s => freeB ys (.str s) := List.mem_filter.mpr ⟨List.mem_cons_of_mem _ hx, (free_iff x).mpr ⟨hn, (qN_ok x hx).2⟩⟩
        cases hF : (z :: qN).filter fun s => freeB ys (.str s) with
        | nil =>
          rw [hF] at mem
          cases mem
        | cons y rest =>
          have hy : y ∈ (z :: qN).filter fun s => freeB ys (.str s) := by rw [hF]; exact List.mem_cons_self
          obtain ⟨hy1, hy2⟩ := List.mem_filter.mp hy
          obtain ⟨m1, m2⟩ := (free_iff y).mp hy2
          rw [hF] at e4'
          refine s_c (l_ixL (SqL.of e4') (i := 0) (v := .str y) (by show atI _ ((0 : Nat) : Int) = _; exact atI_nat rfl) ?_)
          refine k y J4 ?_ m1 m2 (dc3.same s4)
          rcases List.mem_cons.mp hy1 with e | e
          · rw [e]
            exact zok
          · exact (qN_ok y e).1
/-! ### rows of such names -/
def sp__law_names : Sp := fun vs H Q _ => ∃ (d : Addr) (n : Nat), vs = [.ref d, .int (n : Int)] ∧ DiceAt H d ∧ n ≤ 20 ∧
  ∀ (p : Addr) (G : Hp) (ys : List Str), ys.length = n → (∀ y ∈ ys, NameOk y ∧ y ∉ resN) → ys.Nodup → H p = none → G p = some (.lst (ys.map V.str)) → Dc d H G → Q (.ref p) G
theorem ok__law_names (T : Txt K mg) : FnG P w K mg base CX0 4 T.a__law_names T.d__law_names ["dice", "size"] sp__law_names := by
  have G__law_name : FnG P w K mg base CX0 3 T.a__law_name T.d__law_name ["dice", "taken"] (sp__law_name K) := ok__law_name T
  have HP := @PassesOwn.never
  refine okG T.F__law_names sc__law_names (fun vs H Q E h => ?_) (fun cdv A fs s H vs Q E hr h => ?_)
  · obtain ⟨d, n, rfl, _⟩ := h
    rfl
  obtain ⟨d, n, rfl, hd, hn, k⟩ := h
  have nd := sc__law_names.nd
  refine ⟨_, ((pss_cons (ps_set (i := 2) nd rfl (Or.inl rfl) (pe_lst pa_nil))
  (pss_cons (ps_for HP rfl (pi_range1 rfl T.z_range (pa_cons (pv 1) pa_nil)) (pg_name (i := 3) nd rfl (Or.inl rfl)) (pss_one (ps_expr (pe_bm PySem.F.plainAttrs_list PySem.F.slot_list_append PySem.F.type_list_append mt_append (pv 2) (pa_cons (pe_callG G__law_name (hr.down (by decide)) rfl T.m__law_name T.F__law_name.kp T.b__law_name .nil pass0 (pa_cons (pv 0) (pa_cons (pv 2) pa_nil))) pa_nil)))))
  (pss_one (ps_ret (pv 2)))))), ?_⟩
  walk_at "s"
  refine l_newL (by show 0 ≤ sizeLine; decide) fun p G0 np sp ep => ?_
  have dc0 := (Dc.refl hd).same sp
  have nep : p ≠ d := fun e => (hd.ne np) e.symm
  walk_at "s"
  refine l_forR (by omega) (by omega) (fun i σ G => ∃ (ys : List Str) (u : Option V), σ = [some (.ref d), some (.int (n : Int)), some (.ref p), u] ∧ ys.length = i ∧ (∀ y ∈ ys, NameOk y ∧ y ∉ resN) ∧ ys.Nodup ∧ G p = some (.lst (ys.map V.str)) ∧ Dc d H G) ⟨[], _, rfl, rfl, nofun, List.nodup_nil, ep, dc0⟩ ?_ ?_
  · rintro i σ G hi ⟨ys, u, rfl, hl, hok, hnd, hp, dc⟩
    walk_at "s"
    refine ⟨.ref p, rfl, Or.inl ⟨rfl, _, SqL.of hp⟩, ?_⟩
    walk_at "s"
    refine ⟨d, p, ys, rfl, dc.dice, SqL.of hp, nep, by omega, fun y G2 y1 y2 y3 dc2 => ?_⟩
    walk_at "s"
    have hp2 := dc2.keep p _ nep hp
    refine ⟨p, _, .str y, rfl, rfl, hp2, by rw [List.length_map, sizeLine_eq]; omega, ?_⟩
    walk_at "s"
    have dc3 := dc.trans dc2
    refine ⟨ys ++ [y], _, rfl, by rw [List.length_append, hl]; rfl, fun x hx => ?_, ?_, by rw [upd_same, List.map_append]; rfl, ⟨fun b o nb z => ?_, ?_⟩⟩
    · rcases List.mem_append.mp hx with q | q
      · exact hok x q
      · have e : x = y := by simpa using q
        rw [e]
        exact ⟨y1, y3⟩
    · refine List.nodup_append.mpr ⟨hnd, by simp, fun a ha b hb e => ?_⟩
      have e2 : b = y := by simpa using hb
      rw [e, e2] at ha
      exact y2 ha
    · have bp : b ≠ p := ne_of_none z np
      rw [upd_ne bp]
      exact dc3.keep b o nb z
    · obtain ⟨a1, a2, a3, e⟩ := dc3.dice
      exact ⟨a1, a2, a3, by rw [upd_ne (Ne.symm nep)]; exact e⟩
  · rintro σ G ⟨ys, u, rfl, hl, hok, hnd, hp, dc⟩
    walk_at "s"
    exact k p G ys (by omega) hok hnd np hp dc
end
section
variable {P : Program} {w : World} {K : PySem.W.Frag} {mg : Str → Option Value} {base : Heap}
/-- the items in some order, as a new list -/
def sp__law_mixed (K : PySem.W.Frag) : Sp := fun vs H Q _ => ∃ (d l : Addr) (xs : List V), vs = [.ref d, .ref l] ∧ DiceAt H d ∧ SqL K H l xs ∧ l ≠ d ∧ xs.length ≤ 1000 ∧ ∀ p G ys, ys.Perm xs → H p = none → G p = some (.lst ys) → Dc d H G → Q (.ref p) G
theorem seq_ix {i : Int} {n : Nat} (h0 : 0 ≤ i) (h1 : i < (n : Int)) : seqIndex? i n = some i.toNat := by
  unfold seqIndex?
  simp
  omega
theorem erase_perm {α : Type} : ∀ {l : List α} {i : Nat} (h : i < l.length), (l[i] :: l.eraseIdx i).Perm l
  | _ :: _, 0, _ => List.Perm.refl _
  | x :: l, i + 1, h => (List.Perm.swap x _ _).trans (List.Perm.cons x (erase_perm (l := l) (i := i) (by simpa using h)))
theorem ok__law_mixed (T : Txt K mg) : FnG P w K mg base CX0 2 T.a__law_mixed T.d__law_mixed ["dice", "items"] (sp__law_mixed K) := by
  have G__law_roll : FnG P w K mg base CX0 1 T.a__law_roll T.d__law_roll ["dice", "total"] sp__law_roll := ok__law_roll T
  refine okG T.F__law_mixed sc__law_mixed (fun vs H Q E h => ?_) (fun cdv A fs s H vs Q E hr h => ?_)
  · obtain ⟨d, l, xs, rfl, _⟩ := h
    rfl
  obtain ⟨d, l, xs, rfl, hd, hl, ne, hn, k⟩ := h
  have nd := sc__law_mixed.nd
  refine ⟨_, ((pss_cons (ps_set (i := 2) nd rfl (Or.inr rfl) (pe_callTy c_list (by rfl) T.z_list (by decide +kernel) (pa_cons (pv 1) pa_nil)))
  (pss_one (ps_ret (pe_lc (own := [("turn", 3)]) rfl nd (pi_range1 rfl T.z_range (pa_cons (pe_callB c_len (by rfl) T.z_len (by decide +kernel) (pa_cons (pv 1) pa_nil)) pa_nil)) (blkOk_by (own := [("turn", 3)]) (N := ["dice", "items", "left", "turn"]) (sc := defScope s__law_mixed) (by decide +kernel)) (fun _ _ _ _ _ => pg_name (i := 3) nd rfl (Or.inl rfl)) (fun _ _ _ _ _ => pts_nil) (fun _ _ _ _ _ => by exact (show PE _ _ (tBM K "list" rPopAt _ _) from (pe_bm PySem.F.plainAttrs_list PySem.F.slot_list_pop PySem.F.type_list_pop mt_popAt (pv 2) (pa_cons (pe_callG G__law_roll (hr.down (by decide)) rfl T.m__law_roll T.F__law_roll.kp T.b__law_roll .nil pass0 (pa_cons (pv 0) (pa_cons (pe_callB (show CallR _ _ (G9.rLen K) from c_len) (by rfl) T.z_len (by decide +kernel) (pa_cons (pv 2) pa_nil)) pa_nil))) pa_nil))))))))), ?_⟩
  walk_at "s"
  refine l_listL hl fun m G0 nm s0 em => ?_
  walk_at "s"
  refine s_lcR (j := 3) ?_
  walk_at "s"
  refine l_lenL (s0.seq hl) ?_
  walk_at "s"
  refine ⟨(xs.length : Int), rfl, by omega, by omega, fun D hD => ?_⟩
  have nmd : m ≠ d := fun e => (hd.ne nm) e.symm
  have nDm : D ≠ m := fun e => by
    rw [e, em] at hD
    cases hD
  have dc0 := (Dc.refl hd).same s0
  have nDd : D ≠ d := fun e => by
    obtain ⟨_, _, _, z⟩ := dc0.dice
    rw [e, z] at hD
    cases hD
  have nHD : H D = none := by
    cases e0 : H D with
    | none => rfl
    | some u =>
      rw [s0 _ _ e0] at hD
      cases hD
  have lw : (intsTo xs.length).length = xs.length := by unfold intsTo; rw [List.length_map, List.length_range]
  refine lc_it (walk_ints (n := xs.length)) (fun i G => ∃ acc rest : List V, G D = some (.lst acc) ∧ G m = some (.lst rest) ∧ acc.length = i ∧ (acc ++ rest).Perm xs ∧ Dc d H G) ?_ (fun _ _ _ _ => trivial) ?_ (fun G p => ?_)
  · refine ⟨[], xs, upd_same, by rw [upd_ne (Ne.symm nDm)]; exact em, rfl, List.Perm.refl _, dc0.keep.new hD, ?_⟩
    obtain ⟨x1, x2, x3, z⟩ := dc0.dice
    exact ⟨x1, x2, x3, by rw [upd_ne (Ne.symm nDd)]; exact z⟩
  · rintro i x G G' hi ⟨acc, rest, eD, eM, la, pm, dc⟩ y
    obtain ⟨rfl, hx⟩ := y
    rw [lw] at hi
    have pl := pm.length_eq
    rw [List.length_append] at pl
    refine s_name ⟨?_, ?_⟩
    · rfl
    refine s_yes (iteT ?_)
    refine ⟨.ref m, rfl, Or.inl ⟨rfl, _, SqL.of eM⟩, ?_⟩
    walk_at "s"
    refine ⟨d, _, rfl, dc.dice, by omega, by omega, fun r G2 h0 h1 dc2 => ?_⟩
    walk_at "s"
    have eM2 := dc2.keep _ _ nmd eM
    have eD2 := dc2.keep _ _ nDd eD
    have hr : r.toNat < rest.length := by omega
    refine ⟨m, rest, r, r.toNat, rest[r.toNat], rfl, rfl, eM2, by omega, by omega, seq_ix h0 h1, List.getElem?_eq_getElem hr, acc, by rw [upd_ne nDm]; exact eD2, by rw [sizeLine_eq]; omega, acc ++ [rest[r.toNat]], rest.eraseIdx r.toNat, upd_same, by rw [upd_ne (Ne.symm nDm), upd_same], by rw [List.length_append, la]; rfl, ?_, ?_⟩
    · rw [List.append_assoc]
      exact ((List.Perm.append_left acc (erase_perm hr))).trans pm
    · have dc3 := dc.trans dc2
      refine ⟨fun b o nb z => ?_, ?_⟩
      · rw [upd_ne (ne_of_none z nHD), upd_ne (ne_of_none z nm)]
        exact dc3.keep b o nb z
      · obtain ⟨x1, x2, x3, z⟩ := dc3.dice
        exact ⟨x1, x2, x3, by rw [upd_ne (Ne.symm nDd), upd_ne (Ne.symm nmd)]; exact z⟩
  · obtain ⟨acc, rest, eD, eM, la, pm, dc⟩ := p
    rw [lw] at la
    have pl := pm.length_eq
    rw [List.length_append] at pl
    have : rest = [] := List.length_eq_zero_iff.mp (by omega)
    rw [this, List.append_nil] at pm
    exact k D G acc pm nHD eD dc
end
theorem paired_app {α β : Type} {F : α → β → Prop} : ∀ {l1 l2 : List α} {m1 m2 : List β}, Paired F l1 m1 → Paired F l2 m2 → Paired F (l1 ++ l2) (m1 ++ m2)
  | [], _, [], _, _, h => h
  | [], _, _ :: _, _, h, _ => nomatch h
  | _ :: _, _, [], _, h, _ => nomatch h
  | _ :: _, _, _ :: _, _, .cons a t, h => .cons a (paired_app t h)
/-! ### drawn commands -/
section
variable {P : Program} {w : World} {K : PySem.W.Frag} {mg : Str → Option Value} {base : Heap}
/-- a dict with these commands -/
def PairsAt (H : Hp) (p : Addr) (b : PB) : Prop := ∃ kvs, H p = some (.dK kvs) ∧ RowsAt H kvs b
theorem answer_of {y : Str} (h : NameOk y) (n : y ∉ resN) : answerB1 y = true := by
  obtain ⟨h1, h2, h3⟩ := h
  unfold answerB1 nameB
  rw [decide_eq_true h1, decide_eq_true h2, Bool.true_and, Bool.true_and, Bool.and_eq_true]
  refine ⟨List.all_eq_true.mpr fun c hc => ?_, ?_⟩
  · have := h3 c hc
    unfold small
    rw [decide_eq_true this.1, decide_eq_true this.2]
    rfl
  · rw [Bool.not_eq_true', List.any_eq_false]
    intro z hz e
    exact n (by rw [← beq_iff_eq.mp e]; exact hz)
def sp__law_pairs : Sp := fun vs H Q _ => ∃ d : Addr, vs = [.ref d, .int 6, .int 3] ∧ DiceAt H d ∧ ∀ p G b, GoodB b → H p = none → PairsAt G p b → Dc d H G → Q (.ref p) G
theorem strs_perm : ∀ {l : List Str} {ys : List V}, ys.Perm (l.map V.str) → ∃ m : List Str, ys = m.map V.str ∧ m.Perm l := by
  intro l ys p
  refine ⟨ys.filterMap fun v => match v with | .str s => some s | _ => none, ?_, ?_⟩
  · have all : ∀ v ∈ ys, ∃ s, v = .str s := fun v hv => by
      obtain ⟨s, _, e⟩ := List.mem_map.mp (p.mem_iff.mp hv)
      exact ⟨s, e.symm⟩
    clear p
    induction ys with
    | nil => rfl
    | cons v r ih =>
      obtain ⟨s, rfl⟩ := all v List.mem_cons_self
      show _ = V.str s :: _
      rw [← ih fun x hx => all x (List.mem_cons_of_mem _ hx)]
  · have q := p.filterMap fun v => match v with | .str s => some s | _ => none
    refine q.trans (List.Perm.of_eq ?_)
    clear p q
    induction l with
    | nil => rfl
    | cons s r ih =>
      show s :: _ = s :: r
      rw [ih]
theorem rows_keep {d : Addr} {H G : Hp} {kvs : List (Key × V)} {b : PB} (hd : DiceAt H d) (k : Keep d H G) (r : RowsAt H kvs b) : RowsAt G kvs b := Paired.mono (fun _ _ a => ⟨a.1, by
  obtain ⟨pr, an, e, h1, h2⟩ := a.2
  obtain ⟨x1, x2, x3, z⟩ := hd
  have n1 : pr ≠ d := fun q => by
    rw [q, z] at h1
    cases h1
  have n2 : an ≠ d := fun q => by
    rw [q, z] at h2
    cases h2
  exact ⟨pr, an, e, k _ _ n1 h1, k _ _ n2 h2⟩⟩) r
theorem ok__law_pairs (T : Txt K mg) : FnG P w K mg base CX0 5 T.a__law_pairs T.d__law_pairs ["dice", "most", "answers"] sp__law_pairs := by
  have G__law_roll : FnG P w K mg base CX0 1 T.a__law_roll T.d__law_roll ["dice", "total"] sp__law_roll := ok__law_roll T
  have G__law_names : FnG P w K mg base CX0 4 T.a__law_names T.d__law_names ["dice", "size"] sp__law_names := ok__law_names T
  have G__law_mixed : FnG P w K mg base CX0 2 T.a__law_mixed T.d__law_mixed ["dice", "items"] (sp__law_mixed K) := ok__law_mixed T
  have HP := @PassesOwn.never
  refine okG T.F__law_pairs sc__law_pairs (fun vs H Q E h => ?_) (fun cdv A fs s H vs Q E hr h => ?_)
  · obtain ⟨d, rfl, _⟩ := h
    rfl
  obtain ⟨d, rfl, hd, k⟩ := h
  have nd := sc__law_pairs.nd
  refine ⟨_, ((pss_cons (ps_par (i := 3) (j := 4) rfl nd rfl rfl (by decide) rfl rfl (pa_cons (pe_callG G__law_names (hr.down (by decide)) rfl T.m__law_names T.F__law_names.kp T.b__law_names .nil pass0 (pa_cons (pv 0) (pa_cons (pe_op op_add pe_int (pe_callG G__law_roll (hr.down (by decide)) rfl T.m__law_roll T.F__law_roll.kp T.b__law_roll .nil pass0 (pa_cons (pv 0) (pa_cons (pv 1) pa_nil)))) pa_nil))) (pa_cons (pe_callG G__law_names (hr.down (by decide)) rfl T.m__law_names T.F__law_names.kp T.b__law_names .nil pass0 (pa_cons (pv 0) (pa_cons pe_int pa_nil))) pa_nil)) (by rfl))
  (pss_cons (ps_set (i := 5) nd rfl (Or.inl rfl) pe_dnewK)
  (pss_cons (ps_for HP rfl (pi_list (pe_callB cr_sortedS (by rfl) T.z_sorted (by decide +kernel) (pa_cons (pv 3) pa_nil))) (pg_name (i := 6) nd rfl (Or.inl rfl)) (pss_cons (ps_set (i := 7) nd rfl (Or.inl rfl) (pe_slice sl_list (pe_callG G__law_mixed (hr.down (by decide)) rfl T.m__law_mixed T.F__law_mixed.kp T.b__law_mixed .nil pass0 (pa_cons (pv 0) (pa_cons (pv 4) pa_nil))) po_none (po_some (pe_op op_add pe_int (pe_callG G__law_roll (hr.down (by decide)) rfl T.m__law_roll T.F__law_roll.kp T.b__law_roll .nil pass0 (pa_cons (pv 0) (pa_cons (pv 2) pa_nil)))))))
  (pss_one (ps_asg (pe_tup (pa_cons (pe_callG G__law_roll (hr.down (by decide)) rfl T.m__law_roll T.F__law_roll.kp T.b__law_roll .nil pass0 (pa_cons (pv 0) (pa_cons pe_int pa_nil))) (pa_cons (pe_callTy c_tuple (by rfl) T.z_tuple (by decide +kernel) (pa_cons (pe_callB cr_sortedS (by rfl) T.z_sorted (by decide +kernel) (pa_cons (pv 7) pa_nil)) pa_nil)) pa_nil))) (pg_sub (pv 5) (pv 6) (set_dict hr.hu))))))
  (pss_one (ps_ret (pv 5))))))), ?_⟩
  walk_at "s"
  refine ⟨d, 6, rfl, hd, by decide, by decide, fun r0 G0 r00 r01 dc0 => ?_⟩
  walk_at "s"
  obtain ⟨n, hn⟩ : ∃ n : Nat, (1 + r0 : Int) = n := Int.eq_ofNat_of_zero_le (by omega)
  rw [hn]
  refine ⟨d, n, rfl, dc0.dice, by omega, fun p1 G1 names l1 ok1 nd1 np1 ep1 dc1 => ?_⟩
  walk_at "s"
  refine ⟨d, 4, rfl, dc1.dice, by omega, fun p2 G2 pool l2 ok2 nd2 np2 ep2 dc2 => ?_⟩
  walk_at "s"
  have dc02 := (dc0.trans dc1).trans dc2
  have ne1 : p1 ≠ d := fun e => (dc0.dice.ne np1) e.symm
  have ne2 : p2 ≠ d := fun e => (dc1.dice.ne np2) e.symm
  intro D hD
  have nHD : H D = none := by
    cases e0 : H D with
    | none => rfl
    | some u =>
      by_cases z : D = d
      · obtain ⟨_, _, _, q⟩ := dc02.dice
        rw [z, q] at hD
        cases hD
      · rw [dc02.keep _ _ z e0] at hD
        cases hD
  have nDd : D ≠ d := fun e => (dc02.dice.ne hD) e.symm
  have sD : Same G2 (upd G2 D (.dK [])) := Same.upd0 hD
  have ep1' := sD _ _ (dc2.keep _ _ ne1 ep1)
  walk_at "s"
  refine l_sortL (SqL.of ep1') (by omega) fun q G3 nq sq eq => ?_
  have perm := sortS_perm names
  have asc : Asc (sortS names) := sortS_asc nd1
  have lq : (sortS names).length = n := by rw [perm.length_eq, l1]
  have g3D := sq _ _ (upd_same (H := G2) (a := D) (o := .dK []))
  have g3p := sq _ _ (sD _ _ ep2)
  have nqD : q ≠ D := fun e => by
    rw [e, upd_same] at nq
    cases nq
  have qd : q ≠ d := fun e => by
    obtain ⟨_, _, _, z⟩ := dc02.dice
    rw [e, sD _ _ z] at nq
    cases nq
  have np2D : p2 ≠ D := ne_of_none ep2 hD
  refine l_forL (SqL.of eq) (fun i τ G => ∃ (z1 z2 : Option V) (kvs : List (Key × V)) (b : PB), τ = [some (.ref d), some (.int 6), some (.int 3), some (.ref p1), some (.ref p2), some (.ref D), z1, z2] ∧ G D = some (.dK kvs) ∧ RowsAt G kvs b ∧ b.map (·.1) = (sortS names).take i ∧ (∀ x ∈ b, GoodP x.2.1 x.2.2) ∧
    G q = some (.lst ((sortS names).map V.str)) ∧ G p2 = some (.lst (pool.map V.str)) ∧ Dc d H G) ⟨_, _, [], [], rfl, g3D, .nil, rfl, (fun x hx => by cases hx), eq, g3p, (dc02.same sD).same sq⟩
    (fun i τ G _ p => by obtain ⟨_, _, _, _, _, _, _, _, _, z, _⟩ := p; exact SqL.of z) (fun i x τ G hi p => ?_) (fun τ G p => ?_)
  · obtain ⟨z1, z2, kvs, b, rfl, eD, rows, fst, good, eqq, epl, dc⟩ := p
    rw [List.getElem?_map] at hi
    obtain ⟨word, hw, rfl⟩ := Option.map_eq_some_iff.mp hi
    have lt : i < (sortS names).length := (List.getElem?_eq_some_iff.mp hw).1
    walk_at "s"
    refine ⟨d, p2, _, rfl, dc.dice, SqL.of epl, ne2, by rw [List.length_map, l2]; decide, fun m G4 ys pm nm em dc4 => ?_⟩
    obtain ⟨ml, rfl, pml⟩ := strs_perm pm
    have nmd : m ≠ d := fun e => (dc.dice.ne nm) e.symm
    walk_at "s"
    refine ⟨d, 3, rfl, dc4.dice, by decide, by decide, fun r1 G5 r10 r11 dc5 => ?_⟩
    walk_at "s"
    have em5 := dc5.keep _ _ nmd em
    have lml : ml.length = 4 := by rw [pml.length_eq, l2]
    refine l_slL (SqL.of em5) fun t G6 nt st et => ?_
    rw [cut_to (by omega) (by rw [List.length_map]; omega), ← List.map_take] at et
    walk_at "s"
    refine ⟨d, 3, rfl, (dc5.dice.same st), by decide, by decide, fun r2 G7 r20 r21 dc7 => ?_⟩
    walk_at "s"
    have dc57 := ((dc.trans dc4).trans dc5).same st
    have ntd : t ≠ d := fun e => by
      obtain ⟨_, _, _, z⟩ := dc5.dice
      rw [e, z] at nt
      cases nt
    have et7 := dc7.keep _ _ ntd et
    refine l_sortL (SqL.of et7) (by rw [List.length_take]; omega) fun u G8 nu su eu => ?_
    walk_at "s"
    refine l_tupL (SqL.of eu) fun an G9 na sa ea => ?_
    walk_at "s"
    refine l_newT (by show 2 ≤ sizeLine; decide) fun pr G10 npr spr epr => ?_
    walk_at "s"
    obtain ⟨tk, htk⟩ : ∃ tk : Nat, r2 = tk := Int.eq_ofNat_of_zero_le r20
    have k49 : Keep d G G10 := (((((dc4.trans dc5).same st).trans dc7).same su).same (sa.trans spr)).keep
    have eD10 := k49 _ _ nDd eD
    have rows10 := rows_keep dc.dice k49 rows
    have as_nd : (ml.take (1 + r1).toNat).Nodup := (List.take_sublist _ _).nodup (pml.nodup_iff.mpr nd2)
    have lta : (ml.take (1 + r1).toNat).length = (1 + r1).toNat := by rw [List.length_take]; omega
    have pv : PairV G10 (.ref pr) tk (sortS (ml.take (1 + r1).toNat)) := ⟨pr, an, rfl, by rw [epr, htk], spr _ _ ea⟩
    have gp : GoodP tk (sortS (ml.take (1 + r1).toNat)) := by
      refine ⟨by omega, sortS_asc as_nd, ?_, ?_, fun s hs => ?_⟩
      · rw [(sortS_perm _).length_eq, lta]
        omega
      · rw [(sortS_perm _).length_eq, lta]
        omega
      · have hs : s ∈ ml := List.mem_of_mem_take ((sortS_perm _).mem_iff.mp hs)
        have h := ok2 s (pml.mem_iff.mp hs)
        exact answer_of h.1 h.2
    have fresh : word ∉ b.map (·.1) := fun hm => by
      rw [fst] at hm
      obtain ⟨j, hj, e⟩ := List.getElem_of_mem hm
      rw [List.length_take] at hj
      rw [List.getElem_take] at e
      obtain ⟨_, e2⟩ := List.getElem?_eq_some_iff.mp hw
      exact List.pairwise_iff_getElem.mp asc.nodup j i (by omega) lt (by omega) (e.trans e2.symm)
    have lb : kvs.length = b.length := rows.len
    have lb2 : b.length ≤ 6 := by
      have := congrArg List.length fst
      rw [List.length_map, List.length_take] at this
      omega
    refine ⟨D, _, rfl, DPut.k (k := .inr word) eD10 (by rw [sizeLine_eq]; omega), ?_⟩
    have new : putK kvs (.inr word) (.ref pr) = kvs ++ [(.inr word, .ref pr)] := putK_new _ (rows10.none_ fresh)
    have dcE : Dc d H G10 := (((dc57.trans dc7).same su).same (sa.trans spr))
    refine ⟨_, _, kvs ++ [(.inr word, .ref pr)], b ++ [(word, tk, sortS (ml.take (1 + r1).toNat))], rfl, by rw [upd_same, new], ?_, ?_, fun x hx => ?_, ?_, ?_, ⟨fun a o na z => ?_, ?_⟩⟩
    · exact RowsAt.set eD10 (fun _ z => by cases z) (paired_app rows10 (.cons ⟨rfl, pv⟩ .nil))
    · rw [List.map_append, fst, List.take_add_one, hw]
      rfl
    · rcases List.mem_append.mp hx with hx | hx
      · exact good x hx
      · obtain rfl := List.mem_singleton.mp hx
        exact gp
    · rw [upd_ne nqD]
      exact k49 _ _ qd eqq
    · rw [upd_ne np2D]
      exact k49 _ _ ne2 epl
    · rw [upd_ne (ne_of_none z nHD)]
      exact dcE.keep _ _ na z
    · obtain ⟨x1, x2, x3, z⟩ := dcE.dice
      exact ⟨x1, x2, x3, by rw [upd_ne (Ne.symm nDd)]; exact z⟩
  · obtain ⟨z1, z2, kvs, b, rfl, eD, rows, fst, good, eqq, epl, dc⟩ := p
    rw [List.length_map, List.take_length] at fst
    walk_at "s"
    have lb : b.length = n := by
      have := congrArg List.length fst
      rw [List.length_map] at this
      omega
    have nm : ∀ x ∈ b, answerB1 x.1 = true := fun x hx => by
      have : x.1 ∈ b.map (·.1) := List.mem_map_of_mem hx
      rw [fst] at this
      have h := ok1 _ (perm.mem_iff.mp this)
      exact answer_of h.1 h.2
    exact k D G b ⟨⟨by rw [fst]; exact asc.nodup, nm, good, by omega, by omega⟩, by rw [fst]; exact asc⟩ nHD ⟨kvs, eD, rows⟩ dc
end
/-! ### values of any kind: their texts, whether they are arguments, items, rows -/
mutual
inductive Tx : PyData → Prop
  | non : Tx .none
  | bl (b : Bool) : Tx (.bool b)
  | int (i : Int) : Tx (.int i)
  | str {s : Str} (h : Txt1 s) : Tx (.str s)
  | lst {ds : List PyData} (h : Txs ds) (l : ds.length ≤ 1000) : Tx (.list ds)
  | tup {ds : List PyData} (h : Txs ds) (l : ds.length ≤ 1000) : Tx (.tuple ds)
  | dct {kvs : List (PyData × PyData)} (h : Txs (kvs.map (·.2))) : Tx (.dict kvs)
inductive Txs : List PyData → Prop
  | nil : Txs []
  | cons {d : PyData} {ds : List PyData} (h : Tx d) (hs : Txs ds) : Txs (d :: ds)
end
theorem Txs.mem : ∀ {ds : List PyData}, Txs ds → ∀ d ∈ ds, Tx d
  | _, .nil, _, h => nomatch h
  | _, .cons h hs, d, m => by
    rcases List.mem_cons.mp m with e | m
    · exact e ▸ h
    · exact hs.mem d m
theorem Tx.its {ds : List PyData} (h : Tx (.tuple ds)) : Txs ds ∧ ds.length ≤ 1000 := by
  cases h with
  | tup h l => exact ⟨h, l⟩
def cntD : PyData → Bool
  | .int i => decide (0 ≤ i)
  | _ => false
def argD : PyData → Bool
  | .none => true
  | .str s => nameB s
  | .int i => decide (0 ≤ i)
  | _ => false
section
variable {K : PySem.W.Frag} {H : Hp} {d : Addr} {x : V} {t : PyData}
theorem dat_strOr (h : Dat d H x t) : (∃ s, x = .str s ∧ t = .str s) ∨ (NotStr K H x ∧ ∀ s, t ≠ .str s) := by
  cases h with
  | non => exact Or.inr ⟨NotStr.non, fun _ z => by cases z⟩
  | bl b => exact Or.inr ⟨NotStr.bl, fun _ z => by cases z⟩
  | int i => exact Or.inr ⟨NotStr.int, fun _ z => by cases z⟩
  | str s => exact Or.inl ⟨s, rfl, rfl⟩
  | lst e n r => exact Or.inr ⟨⟨_, .base (.lst e), kit_ty (by decide +kernel)⟩, fun _ z => by cases z⟩
  | tup e r => exact Or.inr ⟨⟨_, .base (.tup e), kit_ty (by decide +kernel)⟩, fun _ z => by cases z⟩
  | dct e r => exact Or.inr ⟨⟨_, .base (.dK e), kit_ty (by decide +kernel)⟩, fun _ z => by cases z⟩
theorem dat_tupOr (h : Dat d H x t) : (∃ a xs ts, x = .ref a ∧ t = .tuple ts ∧ H a = some (.tup xs) ∧ Dats d H xs ts) ∨ ((∀ Q : VK, Q (.bl false) H → rIsi K [x, .ty "tuple"] H Q) ∧ ∀ ts, t ≠ .tuple ts) := by
  cases h with
  | non => exact Or.inr ⟨fun Q q => l_isi (.base .non) (kit_ty (by decide +kernel)) q, fun _ z => by cases z⟩
  | bl b => exact Or.inr ⟨fun Q q => l_isi (.base (.bl b)) (kit_ty (by decide +kernel)) q, fun _ z => by cases z⟩
  | int i => exact Or.inr ⟨fun Q q => l_isi (.base (.int i)) (kit_ty (by decide +kernel)) q, fun _ z => by cases z⟩
  | str s => exact Or.inr ⟨fun Q q => l_isi (.base (.str s)) (kit_ty (by decide +kernel)) q, fun _ z => by cases z⟩
  | lst e n r => exact Or.inr ⟨fun Q q => l_isi (.base (.lst e)) (kit_ty (by decide +kernel)) q, fun _ z => by cases z⟩
  | tup e r => exact Or.inl ⟨_, _, _, rfl, rfl, e, r⟩
  | dct e r => exact Or.inr ⟨fun Q q => l_isi (.base (.dK e)) (kit_ty (by decide +kernel)) q, fun _ z => by cases z⟩
theorem dat_tyb (h : Dat d H x t) : ∃ T, TyB K H x T ∧ ((T = "int" ∧ ∃ i, x = .int i ∧ t = .int i) ∨ (T ≠ "int" ∧ ∀ i, t ≠ .int i)) := by
  cases h with
  | non => exact ⟨_, .non, Or.inr ⟨by decide, fun _ z => by cases z⟩⟩
  | bl b => exact ⟨_, .bl b, Or.inr ⟨by decide, fun _ z => by cases z⟩⟩
  | int i => exact ⟨_, .int i, Or.inl ⟨rfl, i, rfl, rfl⟩⟩
  | str s => exact ⟨_, .str s, Or.inr ⟨by decide, fun _ z => by cases z⟩⟩
  | lst e n r => exact ⟨_, .lst (SqL.of e), Or.inr ⟨by decide, fun _ z => by cases z⟩⟩
  | tup e r => exact ⟨_, .tup (tup_at e), Or.inr ⟨by decide, fun _ z => by cases z⟩⟩
  | dct e r => exact ⟨_, .dK e, Or.inr ⟨by decide, fun _ z => by cases z⟩⟩
end
section
variable {P : Program} {w : World} {K : PySem.W.Frag} {mg : Str → Option Value} {base : Heap}
def sp_countU : Sp := fun vs H Q _ => ∃ (d : Addr) (x : V) (t : PyData), vs = [x] ∧ Dat d H x t ∧ Q (.bl (cntD t)) H
theorem ok_is_countU (T : Txt K mg) : FnG P w K mg base CX0 1 T.a_is_count T.d_is_count ["value"] sp_countU := by
  refine okG T.F_is_count sc_is_count (fun vs H Q E h => ?_) (fun cdv A fs s H vs Q E hr h => ?_)
  · obtain ⟨d, x, t, rfl, _⟩ := h
    rfl
  obtain ⟨d, x, t, rfl, dt, k⟩ := h
  have nd := sc_is_count.nd
  refine ⟨_, ((pss_one (ps_ret (pe_and (pe_cmpR op_isT (pe_callTy call_type1 (by rfl) T.z_type (by decide +kernel) (pa_cons (pv 0) pa_nil)) (pe_tyV (n := "int") (by rfl) T.z_int (by decide +kernel)) (nomark _)) (pe_one (pe_cmpR op_ge (pv 0) pe_int (nomark _))))))), ?_⟩
  walk_at "s"
  obtain ⟨ty, ht, c⟩ := dat_tyb (K := K) dt
  refine l_typ ht ?_
  walk_at "s"
  rcases c with ⟨rfl, i, rfl, rfl⟩ | ⟨nt, ni⟩
  · refine l_isT (l_bl (i_t rfl ?_))
    walk_at "s"
    exact k
  · refine l_isT (l_bl (i_f (decide_eq_false nt) ?_))
    have e : cntD t = false := by
      cases t with
      | int i => exact absurd rfl (ni i)
      | _ => rfl
    rw [e] at k
    exact k
def sp_arg : Sp := fun vs H Q _ => ∃ (d : Addr) (x : V) (t : PyData), vs = [x] ∧ Dat d H x t ∧ Tx t ∧ ∀ G, Same H G → Q (.bl (argD t)) G
theorem ok_is_argument (T : Txt K mg) : FnG P w K mg base CX0 2 T.a_is_argument T.d_is_argument ["value"] sp_arg := by
  have G_is_name : FnG P w K mg base CX0 1 T.a_is_name T.d_is_name ["value"] (sp_is_name K) := ok_is_name T
  have G_is_count : FnG P w K mg base CX0 1 T.a_is_count T.d_is_count ["value"] sp_countU := ok_is_countU T
  refine okG T.F_is_argument sc_is_argument (fun vs H Q E h => ?_) (fun cdv A fs s H vs Q E hr h => ?_)
  · obtain ⟨d, x, t, rfl, _⟩ := h
    rfl
  obtain ⟨d, x, t, rfl, dt, tx, k⟩ := h
  have nd := sc_is_argument.nd
  refine ⟨_, ((pss_one (ps_ret (pe_or (pe_cmpR op_isN (pv 0) pe_non (nomark _)) (pe_or (pe_callG G_is_name (hr.down (by decide)) rfl T.m_is_name T.F_is_name.kp T.b_is_name .nil pass0 (pa_cons (pv 0) pa_nil)) (pe_one (pe_callG G_is_count (hr.down (by decide)) rfl T.m_is_count T.F_is_count.kp T.b_is_count .nil pass0 (pa_cons (pv 0) pa_nil)))))))), ?_⟩
  walk_at "s"
  refine ⟨rfl, l_bl ?_⟩
  rcases dat_strOr (K := K) dt with ⟨z, rfl, rfl⟩ | ⟨ns, nt⟩
  · cases tx with
    | str hz =>
      refine i_f (decide_eq_false fun q => by cases q) ?_
      walk_at "s"
      refine ⟨_, rfl, Or.inl ⟨z, rfl, hz, fun G sg => ?_⟩⟩
      have q := k G sg
      have e : argD (.str z) = nameB z := rfl
      rw [e] at q
      refine l_bl (i_b (fun b1 => ?_) (fun b1 => ?_))
      · rw [b1] at q
        exact q
      · rw [b1] at q
        walk_at "s"
        refine ⟨d, _, _, rfl, dt.same sg, ?_⟩
        exact q
  · by_cases xn : x = .non
    · subst xn
      cases dt
      exact i_t rfl (k H (Same.refl H))
    · refine i_f (decide_eq_false xn) ?_
      walk_at "s"
      refine ⟨_, rfl, Or.inr ⟨ns, fun G sg => ?_⟩⟩
      refine l_bl (i_f rfl ?_)
      walk_at "s"
      refine ⟨d, _, t, rfl, dt.same sg, ?_⟩
      have e : cntD t = argD t := by
        cases dt with
        | non => exact absurd rfl xn
        | str s => exact absurd rfl (nt s)
        | _ => rfl
      rw [e]
      exact k G sg
end
/-! ### items -/
def tkB (b : PB) (s : Str) : Option Nat := (b.find? fun x => decide (x.1 = s)).map (·.2.1)
def sendD (b : PB) (w c a : PyData) : Bool := isS w "send" && match c, a with
  | .str s, .tuple as => (match tkB b s with
    | some n => decide (as.length = n) && as.all argD
    | none => false)
  | _, _ => false
def itemD (b : PB) (t : PyData) : Bool := match t with
  | .tuple [w, c, a] => sendD b w c a
  | t => isS1 t "mark"
theorem isS_eq {t : PyData} {z : Str} (h : isS t z = true) : t = .str z := by
  unfold isS at h
  split at h
  · rw [eq_of_beq h]
  · cases h
theorem isS1_eq {t : PyData} {z : Str} (h : isS1 t z = true) : t = .tuple [.str z] := by
  unfold isS1 at h
  split at h
  · rw [eq_of_beq h]
  · cases h
theorem mem_name {b : PB} {s : Str} : s ∈ b.map (·.1) ↔ ∃ e ∈ b, e.1 = s := by
  rw [List.mem_map]
theorem tk_none {b : PB} {s : Str} (h : s ∉ b.map (·.1)) : tkB b s = none := by
  unfold tkB
  rw [List.find?_eq_none.mpr fun x hx z => h (List.mem_map.mpr ⟨x, hx, of_decide_eq_true z⟩)]
  rfl
theorem tk_some {b : PB} {e : Str × Nat × List Str} (nd : (b.map (·.1)).Nodup) (h : e ∈ b) : tkB b e.1 = some e.2.1 := by
  unfold tkB
  cases f : b.find? fun x => decide (x.1 = e.1) with
  | none => exact absurd (decide_eq_true rfl) (List.find?_eq_none.mp f e h)
  | some x =>
    have h1 := List.mem_of_find?_eq_some f
    have h2 : x.1 = e.1 := of_decide_eq_true (p := x.1 = e.1) (by simpa using List.find?_some f)
    rw [pb_one nd h1 h h2]
    rfl
theorem item_len {b : PB} {ts : List PyData} (h : ts.length ≠ 3) : itemD b (.tuple ts) = isS1 (.tuple ts) "mark" := by
  unfold itemD
  match ts, h with
  | [], _ | [_], _ | [_, _], _ | _ :: _ :: _ :: _ :: _, _ => rfl
  | [_, _, _], h => exact absurd rfl h
theorem dats_bools {K : PySem.W.Frag} {d : Addr} {H : Hp} (f : PyData → Bool) : ∀ {xs : List V} {ts : List PyData}, Dats d H xs ts → (ts.map f).all id = ts.all f
  | _, [], _ => rfl
  | _, t :: ts, .cons _ r => by
    rw [List.map_cons, List.all_cons, List.all_cons, dats_bools (K := K) f r]
    rfl
theorem dats3 {d : Addr} {H : Hp} : ∀ {xs : List V} {ts : List PyData}, Dats d H xs ts → ts.length = 3 → ∃ x y z a b c, xs = [x, y, z] ∧ ts = [a, b, c] ∧ Dat d H x a ∧ Dat d H y b ∧ Dat d H z c
  | _, _, .cons d1 (.cons d2 (.cons d3 .nil)), _ => ⟨_, _, _, _, _, _, rfl, rfl, d1, d2, d3⟩
  | _, _, .nil, h => by cases h
  | _, _, .cons _ .nil, h => by cases h
  | _, _, .cons _ (.cons _ .nil), h => by cases h
  | _, _, .cons _ (.cons _ (.cons _ (.cons _ _))), h => by
    rw [List.length_cons, List.length_cons, List.length_cons, List.length_cons] at h
    omega
section
variable {P : Program} {w : World} {K : PySem.W.Frag} {mg : Str → Option Value} {base : Heap}
def sp_item_with : Sp := fun vs H Q _ => ∃ (d p : Addr) (kvs : List (Key × V)) (b : PB) (x : V) (t : PyData), vs = [.ref p, x] ∧ Rd H p (.dK kvs) ∧ RowsAt H kvs b ∧ (b.map (·.1)).Nodup ∧ Dat d H x t ∧ Tx t ∧ ∀ G, Same H G → Q (.bl (itemD b t)) G
theorem ok_is_item_with (T : Txt K mg) : FnG P w K mg base CX0 4 T.a_is_item_with T.d_is_item_with ["pairs", "value"] sp_item_with := by
  have G_is_argument : FnG P w K mg base CX0 2 T.a_is_argument T.d_is_argument ["value"] sp_arg := ok_is_argument T
  refine okG T.F_is_item_with sc_is_item_with (fun vs H Q E h => ?_) (fun cdv A fs s H vs Q E hr h => ?_)
  · obtain ⟨d, p, kvs, b, x, t, rfl, _⟩ := h
    rfl
  obtain ⟨d, p, kvs, b, x, t, rfl, hp, rows, nb, dt, tx, k⟩ := h
  have nd := sc_is_item_with.nd
  refine ⟨_, ((pss_cons (ps_if (PW.pt (pw_or (pt_not (pt_val (pe_callB call_isi (by rfl) T.z_isinstance (by decide +kernel) (pa_cons (pv 1) (pa_cons (pe_tyV (n := "tuple") (by rfl) T.z_tuple (by decide +kernel)) pa_nil))))) (pw_or1 (pt_cmpR op_ne (pe_callB c_len (by rfl) T.z_len (by decide +kernel) (pa_cons (pv 1) pa_nil)) pe_int (nomark _))))) (pss_one (ps_ret (pe_cmpR (op_eqT1 hr) (pv 1) (pe_glob rfl T.m_MARK T.r_MARK) (nomark _)))) pss_nil)
  (pss_cons (ps_asg (pv 1) (pg_tup (by rfl) (pgs_cons (pg_name (i := 2) nd rfl (Or.inl rfl)) (pgs_cons (pg_name (i := 3) nd rfl (Or.inl rfl)) (pgs_cons (pg_name (i := 4) nd rfl (Or.inl rfl)) pgs_nil)))))
  (pss_cons (ps_if (PW.pt (pw_or (pt_cmpR (op_neS hr) (pv 2) pe_str (nomark _)) (pw_or (pt_not (pt_val (pe_callB call_isi (by rfl) T.z_isinstance (by decide +kernel) (pa_cons (pv 3) (pa_cons (pe_tyV (n := "str") (by rfl) T.z_str (by decide +kernel)) pa_nil))))) (pw_or1 (pt_cmpR (op_dNin hr.hu) (pv 3) (pv 0) (by rfl)))))) (pss_one (ps_ret pe_bl)) pss_nil)
  (pss_cons (ps_if (PW.pt (pw_or (pt_not (pt_val (pe_callB call_isi (by rfl) T.z_isinstance (by decide +kernel) (pa_cons (pv 4) (pa_cons (pe_tyV (n := "tuple") (by rfl) T.z_tuple (by decide +kernel)) pa_nil))))) (pw_or1 (pt_cmpR op_ne (pe_callB c_len (by rfl) T.z_len (by decide +kernel) (pa_cons (pv 4) pa_nil)) (pe_ix ix_tup (pe_dget hr.hu (pv 0) (pv 3) (fun _ _ => rfl)) pe_int (fun _ _ => rfl)) (nomark _))))) (pss_one (ps_ret pe_bl)) pss_nil)
  (pss_one (ps_ret (pe_or (pe_cmpR (op_eqT0 hr) (pv 4) (pe_tup pa_nil) (nomark _)) (pe_one (pe_callB (cr_all rfl) (by rfl) T.z_all (by decide +kernel) (pa_cons (pe_lc (own := [("argument", 5)]) rfl nd (pi_tup (pv 4)) (blkOk_by (own := [("argument", 5)]) (N := ["pairs", "value", "word", "command", "arguments", "argument"]) (sc := defScope s_is_item_with) (by decide +kernel)) (fun _ _ _ _ _ => pg_name (i := 5) nd rfl (Or.inl rfl)) (fun _ _ _ _ _ => pts_nil) (fun _ _ _ _ _ => by exact (pe_callG G_is_argument (hr.down (by decide)) rfl T.m_is_argument T.F_is_argument.kp T.b_is_argument .nil pass0 (pa_cons (pv 5) pa_nil)))) pa_nil))))))))))), ?_⟩
  walk_at "s"
  rcases dat_tupOr (K := K) dt with ⟨a, xs, ts, rfl, rfl, ea, ds⟩ | ⟨no, nt⟩
  · refine l_isTup ea ?_
    walk_at "s"
    refine i_f rfl ?_
    walk_at "s"
    refine l_lenT (tup_at ea) ?_
    walk_at "s"
    rw [ds.len]
    by_cases h3 : ts.length = 3
    · refine i_f (by rw [h3]; rfl) ?_
      obtain ⟨xw, xc, xa, tw, tc, ta, rfl, rfl, dw, dc, da⟩ := dats3 ds h3
      walk_at "s"
      refine l_gtup (tup_at ea) rfl ?_
      walk_at "s"
      refine ⟨d, tw, "send", dw, rfl, ?_⟩
      walk_at "s"
      have kk := k H (Same.refl H)
      have ki : ∀ c, (isS tw "send" && c) = c ∨ isS tw "send" = false := fun c => by
        cases isS tw "send"
        · exact Or.inr rfl
        · exact Or.inl rfl
      refine i_b (fun b1 => ?_) (fun b1 => ?_)
      · refine i_t rfl ?_
        walk_at "s"
        have b2 : isS tw "send" = false := by simpa using b1
        have e : itemD b (.tuple [tw, tc, ta]) = false := by
          show (isS tw "send" && _) = false
          rw [b2, Bool.false_and]
        rw [e] at kk
        exact kk
      have b2 : isS tw "send" = true := by simpa using b1
      walk_at "s"
      rcases dat_strOr (K := K) dc with ⟨cs, rfl, rfl⟩ | ⟨ns, nt⟩
      · refine l_isStr ?_
        walk_at "s"
        refine i_f rfl ?_
        walk_at "s"
        refine l_dNin (rows_get (b := b) hp) ?_
        refine l_bl ?_
        rw [rows.has nb]
        by_cases hc : cs ∈ b.map (·.1)
        · rw [decide_eq_true hc]
          refine i_f rfl ?_
          walk_at "s"
          obtain ⟨e, he, rfl⟩ := List.mem_map.mp hc
          have tk := tk_some nb he
          have kq : itemD b (.tuple [tw, .str e.1, ta]) = (match ta with | .tuple as => decide (as.length = e.2.1) && as.all argD | _ => false) := by
            show (isS tw "send" && _) = _
            rw [b2, Bool.true_and]
            cases ta <;> simp only [tk]
          rcases dat_tupOr (K := K) da with ⟨a2, ys, us, rfl, rfl, ea2, ds2⟩ | ⟨no2, nt2⟩
          · refine l_isTup ea2 ?_
            walk_at "s"
            refine i_f rfl ?_
            walk_at "s"
            refine l_lenT (tup_at ea2) ?_
            walk_at "s"
            obtain ⟨v, ev, pr, an, rfl, h1, h2⟩ := rows.find nb he
            refine ⟨p, .ref pr, rfl, ?_, ?_⟩
            · rw [← ev]
              exact rows_get (b := b) hp
            walk_at "s"
            refine l_ixT (tup_at h1) at0 ?_
            walk_at "s"
            rw [ds2.len]
            by_cases hl : us.length = e.2.1
            · refine i_f (by rw [hl, decide_eq_true rfl]; rfl) ?_
              walk_at "s"
              refine l_newT (xs := []) (by show 0 ≤ sizeLine; decide) fun l G nl sl el => ?_
              have kq2 : itemD b (.tuple [tw, .str e.1, .tuple us]) = us.all argD := by
                rw [kq]
                show (decide (us.length = e.2.1) && us.all argD) = _
                rw [decide_eq_true hl, Bool.true_and]
              refine ⟨a2, l, ys, rfl, rfl, tup_at (sl _ _ ea2), tup_at el, ?_⟩
              refine l_bl (i_b (fun z => ?_) (fun z => ?_))
              · have e0 : us = [] := List.length_eq_zero_iff.mp (ds2.len.symm.trans (of_decide_eq_true z))
                have q := k G sl
                rw [kq2, e0] at q
                exact q
              · walk_at "s"
                obtain ⟨tx2, us1⟩ : Txs us ∧ us.length ≤ 1000 := (tx.its.1.mem (.tuple us) (List.mem_cons_of_mem _ (List.mem_cons_of_mem _ List.mem_cons_self))).its
                refine l_lcTv (tup_at (sl _ _ ea2)) (us.map fun u => V.bl (argD u)) (by rw [List.length_map, ds2.len]) (by rw [ds2.len]; omega) (fun n x v hx hv J sj R r => ?_) (fun D J nD sj eD => ?_)
                · obtain ⟨u, hu, du⟩ := ds2.at hx
                  rw [List.getElem?_map, hu] at hv
                  obtain rfl := Option.some.inj hv
                  refine s_call (s_cons (s_var rfl (s_nil ⟨d, x, u, rfl, du.same (sl.trans sj), tx2.mem u (List.mem_of_getElem? hu), fun J2 s2 => r J2 s2⟩)))
                · have e4 : (us.map fun u => V.bl (argD u)) = (us.map argD).map V.bl := by rw [List.map_map]; rfl
                  rw [e4] at eD
                  walk_at "s"
                  refine l_all (SqL.of eD) ?_
                  have q := k J (sl.trans sj)
                  rw [kq2] at q
                  rw [List.all_map]
                  exact q
            · refine i_t (by rw [decide_eq_false (fun z => hl (by injection z with z; omega))]; rfl) ?_
              walk_at "s"
              have e2 : itemD b (.tuple [tw, .str e.1, .tuple us]) = false := by
                rw [kq]
                show (decide (us.length = e.2.1) && us.all argD) = false
                rw [decide_eq_false hl, Bool.false_and]
              rw [e2] at kk
              exact kk
          · refine no2 _ ?_
            walk_at "s"
            refine i_t rfl ?_
            refine i_t rfl ?_
            walk_at "s"
            have e2 : itemD b (.tuple [tw, .str e.1, ta]) = false := by
              rw [kq]
              cases ta with
              | tuple us => exact absurd rfl (nt2 us)
              | _ => rfl
            rw [e2] at kk
            exact kk
        · rw [decide_eq_false hc]
          refine i_t rfl ?_
          walk_at "s"
          have e : itemD b (.tuple [tw, .str cs, ta]) = false := by
            show (isS tw "send" && _) = false
            rw [b2, Bool.true_and]
            cases ta <;> simp only [tk_none hc]
          rw [e] at kk
          exact kk
      · refine l_notStr ns ?_
        walk_at "s"
        refine i_t rfl ?_
        refine i_t rfl ?_
        walk_at "s"
        have e : itemD b (.tuple [tw, tc, ta]) = false := by
          show (isS tw "send" && _) = false
          rw [b2, Bool.true_and]
          cases tc with
          | str s => exact absurd rfl (nt s)
          | _ => rfl
        rw [e] at kk
        exact kk
    · refine i_t (by rw [decide_eq_false (fun z => h3 (by injection z with z; omega))]; rfl) ?_
      walk_at "s"
      refine ⟨d, T.a_MARK, _, "mark", dt, rfl, T.q_MARK H, ?_⟩
      rw [← item_len (b := b) h3]
      exact k H (Same.refl H)
  · refine no _ ?_
    walk_at "s"
    refine i_t rfl ?_
    refine i_t rfl ?_
    walk_at "s"
    refine ⟨d, T.a_MARK, _, "mark", dt, rfl, T.q_MARK H, ?_⟩
    have e : itemD b t = isS1 t "mark" := by
      cases t with
      | tuple ts => exact absurd rfl (nt ts)
      | _ => rfl
    rw [← e]
    exact k H (Same.refl H)
end
/-! ### is_item, is_items -/
def standD (ts : List PyData) (n : Nat) : PyData → Bool
  | .int i => !decide (0 ≤ i) || (decide (i < (n : Int)) && !(match ts[i.toNat]? with
    | some t => isS1 t "mark"
    | none => false))
  | _ => true
def behD (ts : List PyData) (n : Nat) : PyData → Bool
  | .tuple [_, _, .tuple as] => as.all (standD ts n)
  | _ => true
def behs (ts : List PyData) : List Bool := ts.mapIdx fun n t => behD ts n t
def itemsD (b : PB) : PyData → Bool
  | .tuple ts => ts.all (itemD b) && (behs ts).all id
  | _ => false
section
variable {w : World} {K : PySem.W.Frag} {mg : Str → Option Value} {base : Heap}
def sp_pairs_of (T : Txt K mg) : Sp := fun vs H Q _ => ∃ (a : Addr) (b : PB), vs = [.ref a] ∧ BookRd T H a b ∧ ∀ p kvs, Rd H p (.dK kvs) → RowsAt H kvs b → Q (.ref p) H
theorem ok_pairs_of (T : Txt K mg) : FnG prog0 w K mg base CX0 1 T.a_pairs_of T.d_pairs_of ["book"] (sp_pairs_of T) := by
  refine okG T.F_pairs_of sc_pairs_of (fun vs H Q E h => ?_) (fun cdv A fs s H vs Q E hr h => ?_)
  · obtain ⟨a, b, rfl, _⟩ := h
    rfl
  obtain ⟨a, b, rfl, ⟨dx, p, o, kvs, ows, h1, h2, h3, h4, h5, h6⟩, k⟩ := h
  have nd := sc_pairs_of.nd
  refine ⟨_, ((pss_one (ps_ret (pe_fld (pv 0) rfl)))), ?_⟩
  walk_at "s"
  refine l_fld h1 T.o_Book.cl T.n_Book__pairs fld0 ?_
  exact k p kvs h2 h4
def sp_is_item (T : Txt K mg) : Sp := fun vs H Q E => ∃ (d : Addr) (y x : V) (t : PyData), vs = [y, x] ∧ OrBook T H y (fun b => Dat d H x t ∧ Tx t ∧ ∀ G, Same H G → Q (.bl (itemD b t)) G) (E (.ref T.c_InvalidBook) none H)
theorem ok_is_item (T : Txt K mg) : FnG prog0 w K mg base (L2.CX prog0 w) 5 T.a_is_item T.d_is_item ["book", "value"] (sp_is_item T) := by
  have G_need_book : FnG prog0 w K mg base (L2.CX prog0 w) 3 T.a_need_book T.d_need_book ["book"] (sp_need_book T) := ok_need_book T
  have G_pairs_of : FnG prog0 w K mg base CX0 1 T.a_pairs_of T.d_pairs_of ["book"] (sp_pairs_of T) := ok_pairs_of T
  have G_is_item_with : FnG prog0 w K mg base CX0 4 T.a_is_item_with T.d_is_item_with ["pairs", "value"] sp_item_with := ok_is_item_with T
  refine okGX T.F_is_item sc_is_item (fun vs H Q E h => ?_) (fun cdv A fs s H vs Q E hr h tk => ?_)
  · obtain ⟨d, y, x, t, rfl, _⟩ := h
    rfl
  obtain ⟨d, y, x, t, rfl, k⟩ := h
  have nd := sc_is_item.nd
  refine ⟨_, ((pss_cons (ps_expr (pe_callGS G_need_book (hr.down (by decide)) rfl T.m_need_book T.F_need_book.kp T.b_need_book (fun σ => passAt tk σ) (pa_cons (pv 0) pa_nil)))
  (pss_one (ps_ret (pe_callG G_is_item_with (hr.down (by decide)) rfl T.m_is_item_with T.F_is_item_with.kp T.b_is_item_with .nil pass0 (pa_cons (pe_callG G_pairs_of (hr.down (by decide)) rfl T.m_pairs_of T.F_pairs_of.kp T.b_pairs_of .nil pass0 (pa_cons (pv 0) pa_nil)) (pa_cons (pv 1) pa_nil))))))), ?_⟩
  walk_at "s"
  refine s_callS ?_
  walk_at "s"
  rcases k with ⟨a, b, rfl, bk, dt, tx, k⟩ | ⟨ky, k⟩
  · refine ⟨_, rfl, Or.inl ⟨a, b, rfl, bk, ?_⟩⟩
    walk_at "s"
    refine ⟨a, b, rfl, bk, fun p kvs rp rows => ?_⟩
    walk_at "s"
    exact ⟨d, p, kvs, b, x, t, rfl, rp, rows, bk.good.raw.nd, dt, tx, k⟩
  · exact ⟨_, rfl, Or.inr ⟨ky, k⟩⟩
/-- of items that are tuples -/
def sp_stand : Sp := fun vs H Q _ => ∃ (d a : Addr) (x : V) (t : PyData) (xs : List V) (ts : List PyData) (n : Nat), vs = [x, .ref a, .int n] ∧ Dat d H x t ∧ H a = some (.tup xs) ∧ Dats d H xs ts ∧ (∀ t ∈ ts, ∃ us, t = .tuple us) ∧ n ≤ ts.length ∧ ∀ G, Same H G → Q (.bl (standD ts n t)) G
theorem ok_can_stand (T : Txt K mg) : FnG prog0 w K mg base CX0 2 T.a_can_stand T.d_can_stand ["argument", "items", "at"] sp_stand := by
  have G_is_count : FnG prog0 w K mg base CX0 1 T.a_is_count T.d_is_count ["value"] sp_countU := ok_is_countU T
  refine okG T.F_can_stand sc_can_stand (fun vs H Q E h => ?_) (fun cdv A fs s H vs Q E hr h => ?_)
  · obtain ⟨d, a, x, t, xs, ts, n, rfl, _⟩ := h
    rfl
  obtain ⟨d, a, x, t, xs, ts, n, rfl, dt, ea, ds, tu, ln, k⟩ := h
  have nd := sc_can_stand.nd
  refine ⟨_, ((pss_one (ps_ret (pe_or (pe_not (pe_callG G_is_count (hr.down (by decide)) rfl T.m_is_count T.F_is_count.kp T.b_is_count .nil pass0 (pa_cons (pv 0) pa_nil))) (pe_one (pe_and (pe_cmpR op_lt (pv 0) (pv 2) (nomark _)) (pe_one (pe_cmpR (op_neT1 hr) (pe_ix ix_tup (pv 1) (pv 0) (fun _ _ => rfl)) (pe_glob rfl T.m_MARK T.r_MARK) (nomark _))))))))), ?_⟩
  walk_at "s"
  refine ⟨d, x, t, rfl, dt, ?_⟩
  refine l_bl (l_bl ?_)
  have kk := k H (Same.refl H)
  have no : cntD t = false → standD ts n t = true := fun e => by
    cases t with
    | int i =>
      show (!decide (0 ≤ i) || _) = true
      rw [show decide (0 ≤ i) = false from e]
      rfl
    | _ => rfl
  cases ec : cntD t with
  | false =>
    rw [no ec] at kk
    exact i_t rfl kk
  | true =>
    refine i_f rfl ?_
    cases dt with
    | int i =>
      have i0 : 0 ≤ i := of_decide_eq_true ec
      have e1 : standD ts n (.int i) = (decide (i < (n : Int)) && !(match ts[i.toNat]? with | some t => isS1 t "mark" | none => false)) := by
        show (!decide (0 ≤ i) || _) = _
        rw [show decide (0 ≤ i) = true from ec]
        rfl
      rw [e1] at kk
      walk_at "s"
      refine i_dec (fun lt => ?_) (fun ge => ?_)
      · rw [decide_eq_true lt, Bool.true_and] at kk
        walk_at "s"
        have hi : i.toNat < xs.length := by rw [ds.len]; omega
        have hx : xs[i.toNat]? = some xs[i.toNat] := List.getElem?_eq_getElem hi
        obtain ⟨u, hu, du⟩ := ds.at hx
        obtain ⟨us, rfl⟩ := tu u (List.mem_of_getElem? hu)
        rw [hu] at kk
        refine l_ixT (tup_at ea) (v := xs[i.toNat]) ?_ ?_
        · obtain ⟨_, _, h2, h3⟩ := at_in (xs := xs) i0 (by omega)
          rw [hx] at h2
          rw [h3, ← h2]
        refine ⟨d, T.a_MARK, us, "mark", du, rfl, T.q_MARK H, ?_⟩
        exact kk
      · rw [decide_eq_false ge, Bool.false_and] at kk
        exact kk
    | _ => cases ec
theorem tup_of_item {b : PB} {t : PyData} (h : itemD b t = true) : ∃ us, t = .tuple us := by
  cases t with
  | tuple us => exact ⟨us, rfl⟩
  | _ => cases h
theorem item_cases {b : PB} {t : PyData} (h : itemD b t = true) : isS1 t "mark" = true ∨ (isS1 t "mark" = false ∧ ∃ w s as n, t = .tuple [w, .str s, .tuple as] ∧ isS w "send" = true ∧ tkB b s = some n ∧ as.length = n ∧ as.all argD = true) := by
  cases e : isS1 t "mark" with
  | true => exact Or.inl rfl
  | false =>
    refine Or.inr ⟨rfl, ?_⟩
    obtain ⟨us, rfl⟩ := tup_of_item h
    by_cases h3 : us.length = 3
    · match us, h3 with
      | [w, c, a], _ =>
        have q : sendD b w c a = true := h
        unfold sendD at q
        rw [Bool.and_eq_true] at q
        cases c with
        | str s =>
          cases a with
          | tuple as =>
            have q2 := q.2
            simp only at q2
            cases f : tkB b s with
            | none => rw [f] at q2; cases q2
            | some n =>
              rw [f, Bool.and_eq_true] at q2
              exact ⟨w, s, as, n, rfl, q.1, f, of_decide_eq_true q2.1, q2.2⟩
          | _ => cases q.2
        | _ => cases q.2
    · rw [item_len h3, e] at h
      cases h
def sp_behind : Sp := fun vs H Q _ => ∃ (d a : Addr) (b : PB) (x : V) (t : PyData) (xs : List V) (ts : List PyData) (n : Nat), vs = [x, .ref a, .int n] ∧ Dat d H x t ∧ itemD b t = true ∧ Tx t ∧ H a = some (.tup xs) ∧ Dats d H xs ts ∧ (∀ t ∈ ts, ∃ us, t = .tuple us) ∧ n ≤ ts.length ∧ ∀ G, Same H G → Q (.bl (behD ts n t)) G
theorem ok_is_behind (T : Txt K mg) : FnG prog0 w K mg base CX0 3 T.a_is_behind T.d_is_behind ["item", "items", "at"] sp_behind := by
  have G_can_stand : FnG prog0 w K mg base CX0 2 T.a_can_stand T.d_can_stand ["argument", "items", "at"] sp_stand := ok_can_stand T
  refine okG T.F_is_behind sc_is_behind (fun vs H Q E h => ?_) (fun cdv A fs s H vs Q E hr h => ?_)
  · obtain ⟨d, a, b, x, t, xs, ts, n, rfl, _⟩ := h
    rfl
  obtain ⟨d, a, b, x, t, xs, ts, n, rfl, dt, it, tx, ea, ds, tu, ln, k⟩ := h
  have nd := sc_is_behind.nd
  refine ⟨_, ((pss_one (ps_ret (pe_or (pe_cmpR (op_eqT1 hr) (pv 0) (pe_glob rfl T.m_MARK T.r_MARK) (nomark _)) (pe_or (pe_cmpR (op_eqT0 hr) (pe_ix ix_tup (pv 0) pe_int (fun _ _ => rfl)) (pe_tup pa_nil) (nomark _)) (pe_one (pe_callB (cr_all rfl) (by rfl) T.z_all (by decide +kernel) (pa_cons (pe_lc (own := [("argument", 3)]) rfl nd (pi_tup (pe_ix ix_tup (pv 0) pe_int (fun _ _ => rfl))) (blkOk_by (own := [("argument", 3)]) (N := ["item", "items", "at", "argument"]) (sc := defScope s_is_behind) (by decide +kernel)) (fun _ _ _ _ _ => pg_name (i := 3) nd rfl (Or.inl rfl)) (fun _ _ _ _ _ => pts_nil) (fun _ _ _ _ _ => by exact (pe_callG G_can_stand (hr.down (by decide)) rfl T.m_can_stand T.F_can_stand.kp T.b_can_stand .nil pass0 (pa_cons (pv 3) (pa_cons (pv 1) (pa_cons (pv 2) pa_nil)))))) pa_nil)))))))), ?_⟩
  walk_at "s"
  refine ⟨d, T.a_MARK, t, "mark", dt, rfl, T.q_MARK H, ?_⟩
  have kk := k H (Same.refl H)
  rcases item_cases it with im | ⟨im, w, s, as, n2, rfl, h1, h2, h3, h4⟩
  · rw [im]
    have e : behD ts n t = true := by
      rw [isS1_eq im]
      rfl
    rw [e] at kk
    exact l_bl (i_t rfl kk)
  · rw [im]
    obtain ⟨ax, xs3, us3, rfl, e3, eax, ds3⟩ : ∃ ax xs3 us3, x = .ref ax ∧ PyData.tuple [w, .str s, .tuple as] = .tuple us3 ∧ H ax = some (.tup xs3) ∧ Dats d H xs3 us3 := by
      cases dt with
      | tup e r => exact ⟨_, _, _, rfl, rfl, e, r⟩
    obtain rfl := PyData.tuple.inj e3
    obtain ⟨xw, xc, xa, tw, tc, ta, rfl, e4, dw, dc, da⟩ := dats3 ds3 rfl
    injection e4 with e5 e6
    injection e6 with e6 e7
    injection e7 with e7 e8
    subst e5 e6 e7
    obtain ⟨a2, ys, us, rfl, e9, ea2, ds2⟩ : ∃ a2 ys us, xa = .ref a2 ∧ PyData.tuple as = .tuple us ∧ H a2 = some (.tup ys) ∧ Dats d H ys us := by
      cases da with
      | tup e r => exact ⟨_, _, _, rfl, rfl, e, r⟩
    obtain rfl := PyData.tuple.inj e9
    refine l_bl (i_f rfl ?_)
    walk_at "s"
    refine l_ixT (tup_at eax) (i := 2) (v := .ref a2) rfl ?_
    walk_at "s"
    refine l_newT (xs := []) (by show 0 ≤ sizeLine; decide) fun l G nl sl el => ?_
    refine ⟨a2, l, ys, rfl, rfl, tup_at (sl _ _ ea2), tup_at el, ?_⟩
    have kq : behD ts n (.tuple [w, .str s, .tuple as]) = as.all (standD ts n) := rfl
    refine l_bl (i_b (fun z => ?_) (fun z => ?_))
    · have e0 : as = [] := List.length_eq_zero_iff.mp (ds2.len.symm.trans (of_decide_eq_true z))
      have q := k G sl
      rw [kq, e0] at q
      exact q
    · walk_at "s"
      refine l_ixT (tup_at (sl _ _ eax)) (i := 2) (v := .ref a2) rfl ?_
      have us1 : as.length ≤ 1000 := (tx.its.1.mem (.tuple as) (List.mem_cons_of_mem _ (List.mem_cons_of_mem _ List.mem_cons_self))).its.2
      refine l_lcTv (tup_at (sl _ _ ea2)) (as.map fun u => V.bl (standD ts n u)) (by rw [List.length_map, ds2.len]) (by rw [ds2.len]; omega) (fun m y v hx hv J sj R r => ?_) (fun D J nD sj eD => ?_)
      · obtain ⟨u, hu, du⟩ := ds2.at hx
        rw [List.getElem?_map, hu] at hv
        obtain rfl := Option.some.inj hv
        refine s_call (s_cons (s_var rfl (s_cons (s_var rfl (s_cons (s_var rfl (s_nil ⟨d, a, y, u, xs, ts, n, rfl, du.same (sl.trans sj), (sl.trans sj) _ _ ea, Dats.same (sl.trans sj) ds, tu, ln, fun J2 s2 => r J2 s2⟩)))))))
      · have e4 : (as.map fun u => V.bl (standD ts n u)) = (as.map (standD ts n)).map V.bl := by rw [List.map_map]; rfl
        rw [e4] at eD
        walk_at "s"
        refine l_all (SqL.of eD) ?_
        have q := k J (sl.trans sj)
        rw [kq] at q
        rw [List.all_map]
        exact q
def sp_is_items (T : Txt K mg) : Sp := fun vs H Q E => ∃ (d : Addr) (y x : V) (t : PyData), vs = [y, x] ∧ OrBook T H y (fun b => Dat d H x t ∧ Tx t ∧ ∀ G, Same H G → Q (.bl (itemsD b t)) G) (E (.ref T.c_InvalidBook) none H)
theorem ok_is_items (T : Txt K mg) : FnG prog0 w K mg base (L2.CX prog0 w) 5 T.a_is_items T.d_is_items ["book", "value"] (sp_is_items T) := by
  have G_need_book : FnG prog0 w K mg base (L2.CX prog0 w) 3 T.a_need_book T.d_need_book ["book"] (sp_need_book T) := ok_need_book T
  have G_pairs_of : FnG prog0 w K mg base CX0 1 T.a_pairs_of T.d_pairs_of ["book"] (sp_pairs_of T) := ok_pairs_of T
  have G_is_item_with : FnG prog0 w K mg base CX0 4 T.a_is_item_with T.d_is_item_with ["pairs", "value"] sp_item_with := ok_is_item_with T
  have G_is_behind : FnG prog0 w K mg base CX0 3 T.a_is_behind T.d_is_behind ["item", "items", "at"] sp_behind := ok_is_behind T
  refine okGX T.F_is_items sc_is_items (fun vs H Q E h => ?_) (fun cdv A fs s H vs Q E hr h tk => ?_)
  · obtain ⟨d, y, x, t, rfl, _⟩ := h
    rfl
  obtain ⟨d, y, x, t, rfl, k⟩ := h
  have nd := sc_is_items.nd
  refine ⟨_, ((pss_cons (ps_expr (pe_callGS G_need_book (hr.down (by decide)) rfl T.m_need_book T.F_need_book.kp T.b_need_book (fun σ => passAt tk σ) (pa_cons (pv 0) pa_nil)))
  (pss_cons (ps_set (i := 2) nd rfl (Or.inr rfl) (pe_callG G_pairs_of (hr.down (by decide)) rfl T.m_pairs_of T.F_pairs_of.kp T.b_pairs_of .nil pass0 (pa_cons (pv 0) pa_nil)))
  (pss_cons (ps_if (PW.pt (pw_or (pt_not (pt_val (pe_callB call_isi (by rfl) T.z_isinstance (by decide +kernel) (pa_cons (pv 1) (pa_cons (pe_tyV (n := "tuple") (by rfl) T.z_tuple (by decide +kernel)) pa_nil))))) (pw_or1 (pt_not (pt_val (pe_callB (cr_all rfl) (by rfl) T.z_all (by decide +kernel) (pa_cons (pe_lc (own := [("item", 4)]) rfl nd (pi_tup (pv 1)) (blkOk_by (own := [("item", 4)]) (N := ["book", "value", "pairs", "at", "item"]) (sc := defScope s_is_items) (by decide +kernel)) (fun _ _ _ _ _ => pg_name (i := 4) nd rfl (Or.inl rfl)) (fun _ _ _ _ _ => pts_nil) (fun _ _ _ _ _ => by exact (pe_callG G_is_item_with (hr.down (by decide)) rfl T.m_is_item_with T.F_is_item_with.kp T.b_is_item_with .nil pass0 (pa_cons (pv 2) (pa_cons (pv 4) pa_nil))))) pa_nil))))))) (pss_one (ps_ret pe_bl)) pss_nil)
  (pss_one (ps_ret (pe_callB (cr_all rfl) (by rfl) T.z_all (by decide +kernel) (pa_cons (pe_lc (own := [("at", 3), ("item", 4)]) rfl nd (pi_enumT (by rfl) T.z_enumerate (pa_cons (pv 1) pa_nil)) (blkOk_by (own := [("at", 3), ("item", 4)]) (N := ["book", "value", "pairs", "at", "item"]) (sc := defScope s_is_items) (by decide +kernel)) (fun _ _ _ _ _ => by exact (show PG _ _ (gPair K 3 4) from pg_pair rfl (pg_name (i := 3) nd rfl (Or.inl rfl)) (pg_name (i := 4) nd rfl (Or.inl rfl)))) (fun _ _ _ _ _ => pts_nil) (fun _ _ _ _ _ => by exact (pe_callG G_is_behind (hr.down (by decide)) rfl T.m_is_behind T.F_is_behind.kp T.b_is_behind .nil pass0 (pa_cons (pv 4) (pa_cons (pv 1) (pa_cons (pv 3) pa_nil)))))) pa_nil)))))))), ?_⟩
  walk_at "s"
  refine s_callS ?_
  walk_at "s"
  rcases k with ⟨a, b, rfl, bk, dt, tx, k⟩ | ⟨ky, k⟩
  · refine ⟨_, rfl, Or.inl ⟨a, b, rfl, bk, ?_⟩⟩
    walk_at "s"
    refine ⟨a, b, rfl, bk, fun p kvs rp rows => ?_⟩
    walk_at "s"
    rcases dat_tupOr (K := K) dt with ⟨av, xs, ts, rfl, rfl, ev, ds⟩ | ⟨no, nt⟩
    · refine l_isTup ev ?_
      walk_at "s"
      refine i_f rfl ?_
      walk_at "s"
      obtain ⟨txs, ln⟩ := tx.its
      have mapB : ∀ l : List Bool, l.map V.bl = l.map V.bl := fun _ => rfl
      refine l_lcTv (tup_at ev) (ts.map fun u => V.bl (itemD b u)) (by rw [List.length_map, ds.len]) (by rw [ds.len]; omega) (fun m y v hx hv J sj R r => ?_) (fun D J nD sj eD => ?_)
      · obtain ⟨u, hu, du⟩ := ds.at hx
        rw [List.getElem?_map, hu] at hv
        obtain rfl := Option.some.inj hv
        refine s_call (s_cons (s_var rfl (s_cons (s_var rfl (s_nil ⟨d, p, kvs, b, y, u, rfl, rd_same sj rp, rows.same sj, bk.good.raw.nd, du.same sj, txs.mem u (List.mem_of_getElem? hu), fun J2 s2 => r J2 s2⟩)))))
      · have e4 : (ts.map fun u => V.bl (itemD b u)) = (ts.map (itemD b)).map V.bl := by rw [List.map_map]; rfl
        rw [e4] at eD
        walk_at "s"
        refine l_all (SqL.of eD) ?_
        have e5 : (ts.map (itemD b)).all id = ts.all (itemD b) := by rw [List.all_map]; rfl
        rw [e5]
        refine l_bl ?_
        cases ea : ts.all (itemD b) with
        | false =>
          refine i_t rfl ?_
          walk_at "s"
          have q := k J sj
          have e6 : itemsD b (.tuple ts) = false := by
            show (ts.all (itemD b) && _) = false
            rw [ea, Bool.false_and]
          rw [e6] at q
          exact q
        | true =>
          refine i_f rfl ?_
          walk_at "s"
          have it : ∀ u ∈ ts, itemD b u = true := List.all_eq_true.mp ea
          have lb : (behs ts).length = ts.length := List.length_mapIdx ..
          refine s_lcET (s_cons (s_var rfl (s_nil ?_)))
          refine l_lcET (tup_at (sj _ _ ev)) (ws := (behs ts).map V.bl) (by rw [List.length_map, lb, ds.len]) (by rw [ds.len]; omega) (fun m y v hx hv J2 s2 R r => ?_) (fun D2 J2 nD2 s2 eD2 => ?_) (by decide)
          · obtain ⟨u, hu, du⟩ := ds.at hx
            unfold behs at hv
            rw [List.getElem?_map, List.getElem?_mapIdx, hu] at hv
            obtain rfl := Option.some.inj hv
            have mu := List.mem_of_getElem? hu
            have lt : m < ts.length := (List.getElem?_eq_some_iff.mp hu).1
            have s02 := sj.trans s2
            refine s_call (s_cons (s_var rfl (s_cons (s_var rfl (s_cons (s_var rfl (s_nil ⟨d, av, b, y, u, xs, ts, m, rfl, du.same s02, it u mu, txs.mem u mu, s02 _ _ ev, Dats.same s02 ds, fun z hz => tup_of_item (it z hz), Nat.le_of_lt lt, fun J3 s3 => r J3 s3⟩)))))))
          · walk_at "s"
            refine l_all (SqL.of eD2) ?_
            have q := k J2 (sj.trans s2)
            have e6 : itemsD b (.tuple ts) = (behs ts).all id := by
              show (ts.all (itemD b) && _) = _
              rw [ea, Bool.true_and]
            rw [e6] at q
            exact q
    · refine no _ ?_
      walk_at "s"
      refine i_t rfl ?_
      refine i_t rfl ?_
      walk_at "s"
      have q := k H (Same.refl H)
      have e6 : itemsD b t = false := by
        cases t with
        | tuple us => exact absurd rfl (nt us)
        | _ => rfl
      rw [e6] at q
      exact q
  · exact ⟨_, rfl, Or.inr ⟨ky, k⟩⟩
end
/-! ### is_row -/
def inOut (b : PB) (t : PyData) : Bool := match t with
  | .str s => decide (∃ e ∈ b, s ∈ outs e.2.2)
  | _ => false
def rowD (b : PB) : PyData → Bool
  | .tuple ts => ts.all (inOut b)
  | _ => false
def allOuts (b : PB) : List Str := (b.map fun e => outs e.2.2).flatten
theorem any_outs {b : PB} {t : PyData} : (allOuts b).any (fun z => isS t z) = inOut b t := by
  cases t with
  | str s =>
    show _ = decide _
    rw [Bool.eq_iff_iff, List.any_eq_true, decide_eq_true_iff]
    constructor
    · rintro ⟨z, hz, e⟩
      obtain ⟨l, hl, hz⟩ := List.mem_flatten.mp hz
      obtain ⟨x, hx, rfl⟩ := List.mem_map.mp hl
      have := isS_eq e
      injection this with e2
      exact ⟨x, hx, by rw [e2]; exact hz⟩
    · rintro ⟨x, hx, hs⟩
      exact ⟨s, List.mem_flatten.mpr ⟨_, List.mem_map_of_mem hx, hs⟩, beq_self_eq_true s⟩
  | _ =>
    rw [List.any_eq_false.mpr]
    · rfl
    · intro z _ e
      cases e
def rowK (b : PB) : Key → List V
  | .inr s => (match b.find? fun x => decide (x.1 = s) with
    | some e => (outs e.2.2).map V.str
    | none => [])
  | .inl _ => []
theorem rowK_of {b : PB} {e : Str × Nat × List Str} (nd : (b.map (·.1)).Nodup) (h : e ∈ b) : rowK b (.inr e.1) = (outs e.2.2).map V.str := by
  unfold rowK
  cases f : b.find? fun x => decide (x.1 = e.1) with
  | none => exact absurd (decide_eq_true rfl) (List.find?_eq_none.mp f e h)
  | some x =>
    have h1 := List.mem_of_find?_eq_some f
    have h2 : x.1 = e.1 := of_decide_eq_true (p := x.1 = e.1) (by simpa using List.find?_some f)
    simp only [f]
    rw [pb_one nd h1 h h2]
theorem rows_all {b : PB} (nd : (b.map (·.1)).Nodup) : ∀ {c : PB} {kvs : List (Key × V)}, (∀ e ∈ c, e ∈ b) → kvs.map (·.1) = (c.map (·.1)).map .inr → rowsTo (rowK b) kvs = (allOuts c).map V.str
  | [], [], _, _ => rfl
  | [], _ :: _, _, h => by cases h
  | _ :: _, [], _, h => by cases h
  | e :: c, kv :: kvs, sub, h => by
    have h1 : kv.1 = .inr e.1 := (List.cons.inj h).1
    have h2 := rows_all nd (c := c) (kvs := kvs) (fun x hx => sub x (List.mem_cons_of_mem _ hx)) (List.cons.inj h).2
    show rowK b kv.1 ++ rowsTo (rowK b) kvs = (outs e.2.2 ++ allOuts c).map V.str
    rw [h1, rowK_of nd (sub e List.mem_cons_self), h2, List.map_append]
section
variable {w : World} {K : PySem.W.Frag} {mg : Str → Option Value} {base : Heap}
theorem gn_iter (T : Txt K mg) : FnN prog0 w K mg base CX0 1 T.a_Book___iter__ T.d_Book___iter__ ["self"] (spIterK T.c_Book "_pairs") := by
  refine okN T.F_Book___iter__ sc_Book___iter__ (fun n vs H Q E h => ?_) (fun cdv A fs s H vs Q E hr h => ?_)
  · obtain ⟨a, dx, fs, p, od, kvs, rfl, _⟩ := h
    rfl
  obtain ⟨a, dx, fl, p, od, kvs, rfl, ia, lk, ep, k⟩ := h
  have nd := sc_Book___iter__.nd
  refine ⟨_, ((pss_one (ps_ret (pe_callB call_iterK (by rfl) T.z_iter (by decide +kernel) (pa_cons (pe_fld (pv 0) rfl) pa_nil))))), ?_⟩
  walk_at "s"
  refine l_fld ia T.o_Book.cl T.n_Book__pairs lk ?_
  exact ⟨p, od, kvs, rfl, ep, fun it es epo e1 e2 e3 => k it es epo e1 e2 e3⟩
def sp_is_row (T : Txt K mg) : Sp := fun vs H Q E => ∃ (d : Addr) (y x : V) (t : PyData), vs = [y, x] ∧ ((∃ a b, y = .ref a ∧ BookAt T H a b ∧ Dat d H x t ∧ Tx t ∧ ∀ G, Same H G → Q (.bl (rowD b t)) G) ∨ (OrBook T H y (fun _ => False) (E (.ref T.c_InvalidBook) none H)))
theorem ok_is_row (T : Txt K mg) : FnG prog0 w K mg base (L2.CX prog0 w) 5 T.a_is_row T.d_is_row ["book", "value"] (sp_is_row T) := by
  have G_need_book : FnG prog0 w K mg base (L2.CX prog0 w) 3 T.a_need_book T.d_need_book ["book"] (sp_need_book T) := ok_need_book T
  have G_Book___iter__ : FnN prog0 w K mg base CX0 1 T.a_Book___iter__ T.d_Book___iter__ ["self"] (spIterK T.c_Book "_pairs") := gn_iter T
  have G_Book_outcomes : FnG prog0 w K mg base (L2.CX prog0 w) 3 T.a_Book_outcomes T.d_Book_outcomes ["self", "command"] (sp_outcomes T) := ok_Book_outcomes T
  refine okGX T.F_is_row sc_is_row (fun vs H Q E h => ?_) (fun cdv A fs s H vs Q E hr h tk => ?_)
  · obtain ⟨d, y, x, t, rfl, _⟩ := h
    rfl
  obtain ⟨d, y, x, t, rfl, k⟩ := h
  have nd := sc_is_row.nd
  refine ⟨_, ((pss_cons (ps_expr (pe_callGS G_need_book (hr.down (by decide)) rfl T.m_need_book T.F_need_book.kp T.b_need_book (fun σ => passAt tk σ) (pa_cons (pv 0) pa_nil)))
  (pss_cons (ps_if (pt_not (pt_val (pe_callB call_isi (by rfl) T.z_isinstance (by decide +kernel) (pa_cons (pv 1) (pa_cons (pe_tyV (n := "tuple") (by rfl) T.z_tuple (by decide +kernel)) pa_nil))))) (pss_one (ps_ret pe_bl)) pss_nil)
  (pss_cons (ps_set (i := 2) nd rfl (Or.inr rfl) (pe_lock (pe_lc2 (own := [("command", 3), ("outcome", 4)]) (vs1 := [4]) rfl nd (pi_ownK T.D_Book___iter__ G_Book___iter__ (hr.down (by decide)) T.b_Book___iter__ (pv 0)) (blkOk_by (own := [("command", 3), ("outcome", 4)]) (N := ["book", "value", "known", "command", "outcome"]) (sc := defScope s_is_row) (by decide +kernel)) (by decide) (fun _ _ _ _ _ => pg_name (i := 3) nd rfl (Or.inl rfl)) (fun _ _ _ _ _ => pts_nil) (fun _ _ _ _ _ => by exact (show PI _ _ _ (iTup K _) from (pi_tup (pe_methG (pv 0) T.o_Book.cl T.M_Book_outcomes G_Book_outcomes (hr.down (by decide)) T.b_Book_outcomes passN (pa_cons (pv 3) pa_nil))))) (fun _ _ _ _ _ => pg_name (i := 4) nd rfl (Or.inl rfl)) (fun _ _ _ _ _ => pts_nil) (fun _ _ _ _ _ => by exact (pv 4)))))
  (pss_one (ps_ret (pe_callB (cr_all rfl) (by rfl) T.z_all (by decide +kernel) (pa_cons (pe_lc (own := [("outcome", 4)]) rfl nd (pi_tup (pv 1)) (blkOk_by (own := [("outcome", 4)]) (N := ["book", "value", "known", "command", "outcome"]) (sc := defScope s_is_row) (by decide +kernel)) (fun _ _ _ _ _ => pg_name (i := 4) nd rfl (Or.inl rfl)) (fun _ _ _ _ _ => pts_nil) (fun _ _ _ _ _ => by exact (pe_cmpR (op_inL hr) (pv 4) (pv 2) (by rfl)))) pa_nil)))))))), ?_⟩
  walk_at "s"
  refine s_callS ?_
  walk_at "s"
  rcases k with ⟨a, b, rfl, bk, dt, tx, k⟩ | ko
  · refine ⟨_, rfl, Or.inl ⟨a, b, rfl, bk.rd, ?_⟩⟩
    walk_at "s"
    rcases dat_tupOr (K := K) dt with ⟨av, xs, ts, rfl, rfl, ev, ds⟩ | ⟨no, nt⟩
    · refine l_isTup ev ?_
      walk_at "s"
      refine i_f rfl ?_
      walk_at "s"
      obtain ⟨txs, ln⟩ := tx.its
      obtain ⟨dx, p, o, kvs, ows, h1, h2, h3, h4, h5, h6⟩ := id bk
      have n6 := h6.raw.n6
      have na : a ≠ p := fun z => by
        rw [z, h2] at h1
        cases h1
      refine l_lc2K (row := rowK b) (fun od R r => s_var rfl r) h1 fld0 h2 (by decide) (by have := h4.len; omega) (fun kv hkv => ?_) (fun od kk hk G s1 R r => ?_) (fun y τ G R hl r => s_var (List.getElem?_set_self (by rw [hl]; exact Nat.lt_succ_self 4)) r) (fun D G nD sD eD => ?_)
      · obtain ⟨e, he, ek⟩ := key_of h4 (List.mem_map_of_mem hkv)
        rw [ek, rowK_of h6.raw.nd he, List.length_map]
        have := (h6.raw.pr e he).2.2.2.1
        unfold outs
        rw [(sortS_perm _).length_eq, List.length_append]
        simp
        omega
      · obtain ⟨e, he, rfl⟩ := key_of h4 hk
        have bs : BookRd T G a b := (bk.rd.lock h2).same s1
        have ga : G a = some (.ins T.c_Book dx [("_pairs", .ref p), ("_outcomes", .ref o)]) := s1 _ _ (by
          show upd H p _ a = _
          rw [upd_ne na]
          exact h1)
        walk_at "s"
        refine ⟨a, dx, _, rfl, ga, rfl, ?_⟩
        walk_at "s"
        refine ⟨a, b, .str e.1, rfl, bs, Or.inl ⟨_, rfl⟩, Or.inl ⟨e, he, rfl, fun u eu => ?_⟩⟩
        refine r u G (Same.refl G) ?_
        rw [rowK_of h6.raw.nd he]
        exact eu
      · walk_at "s"
        rw [rows_all h6.raw.nd (fun e he => he) h4.keys] at eD
        refine l_lcTv (tup_at (sD _ _ ev)) (ts.map fun u => V.bl (inOut b u)) (by rw [List.length_map, ds.len]) (by rw [ds.len]; omega) (fun m y v hx hv J sj R r => ?_) (fun D2 J nD2 sj eD2 => ?_)
        · obtain ⟨u, hu, du⟩ := ds.at hx
          rw [List.getElem?_map, hu] at hv
          obtain rfl := Option.some.inj hv
          refine s_op (s_var rfl (s_var rfl ⟨d, D, u, allOuts b, du.same (sD.trans sj), rfl, sj _ _ eD, ?_⟩))
          rw [any_outs]
          exact r J (Same.refl J)
        · have e4 : (ts.map fun u => V.bl (inOut b u)) = (ts.map (inOut b)).map V.bl := by rw [List.map_map]; rfl
          rw [e4] at eD2
          walk_at "s"
          refine l_all (SqL.of eD2) ?_
          rw [List.all_map]
          exact k J (sD.trans sj)
    · refine no _ ?_
      walk_at "s"
      refine i_t rfl ?_
      walk_at "s"
      have q := k H (Same.refl H)
      have e6 : rowD b t = false := by
        cases t with
        | tuple us => exact absurd rfl (nt us)
        | _ => rfl
      rw [e6] at q
      exact q
  · rcases ko with ⟨_, _, _, _, z⟩ | ⟨ky, k⟩
    · exact z.elim
    · exact ⟨_, rfl, Or.inr ⟨ky, k⟩⟩
end
section
variable {P : Program} {w : World} {K : PySem.W.Frag} {mg : Str → Option Value} {base : Heap}
/-! ### the law's own lines -/
def letters : Str := "abcdefghijklmnopqrstuvwxyz"
theorem in_letters {c : Nat} : decide (c ∈ letters.cps.toList) = small c := by
  have e : letters.cps.toList = (List.range 26).map (· + 97) := by decide +kernel
  rw [e]
  unfold small
  by_cases h : 97 ≤ c ∧ c ≤ 122
  · rw [decide_eq_true h.1, decide_eq_true h.2, decide_eq_true]
    · rfl
    · exact List.mem_map.mpr ⟨c - 97, List.mem_range.mpr (by omega), by omega⟩
  · have n : c ∉ (List.range 26).map (· + 97) := fun m => by
      obtain ⟨i, hi, e⟩ := List.mem_map.mp m
      have := List.mem_range.mp hi
      omega
    rw [decide_eq_false n]
    by_cases h1 : 97 ≤ c
    · rw [decide_eq_false (show ¬ c ≤ 122 by omega), Bool.and_false]
    · rw [decide_eq_false h1, Bool.false_and]
def badB : V → Bool := fun v => match v with
  | .str s => !(s.cps.toList.all small)
  | _ => false
theorem bad_sign {c : Nat} : badB (signV c) = !small c := by
  show (!(small c && true)) = _
  rw [Bool.and_true]
theorem bads (l : List Nat) : ((l.map signV).filter badB).map (fun v => v) = (l.filter fun c => !small c).map signV := by
  rw [List.map_id', List.filter_map]
  congr 1
  refine List.filter_congr fun c _ => ?_
  exact bad_sign
theorem ok__law_is_name (T : Txt K mg) : FnG P w K mg base CX0 1 T.a__law_is_name T.d__law_is_name ["value"] (sp_told K nameB) := by
  refine okG T.F__law_is_name sc__law_is_name (fun vs H Q E h => ?_) (fun cdv A fs s H vs Q E hr h => ?_)
  · obtain ⟨x, rfl, _⟩ := h
    rfl
  obtain ⟨x, rfl, k⟩ := h
  have nd := sc__law_is_name.nd
  refine ⟨_, ((pss_cons (ps_if (PW.pt (pw_or (pt_not (pt_val (pe_callB call_isi (by rfl) T.z_isinstance (by decide +kernel) (pa_cons (pv 0) (pa_cons (pe_tyV (n := "str") (by rfl) T.z_str (by decide +kernel)) pa_nil))))) (pw_or1 (pt_not (pt_chain op_le op_le pe_int (pe_callB c_len (by rfl) T.z_len (by decide +kernel) (pa_cons (pv 0) pa_nil)) pe_int))))) (pss_one (ps_ret pe_bl)) pss_nil)
  (pss_one (ps_ret (pe_cmpR (op_eqL0 hr) (pe_lc (own := [("sign", 1)]) rfl nd (pi_str (pv 0)) (blkOk_by (own := [("sign", 1)]) (N := ["value", "sign"]) (sc := defScope s__law_is_name) (by decide +kernel)) (fun _ _ _ _ _ => pg_name (i := 1) nd rfl (Or.inl rfl)) (fun _ _ _ _ _ => by exact (pts_one (pt_cmpR o_ninS (pv 1) pe_str rfl))) (fun _ _ _ _ _ => by exact (pv 1))) (pe_lst pa_nil) (nomark _)))))), ?_⟩
  walk_at "s"
  rcases k with ⟨z, rfl, hz, k⟩ | ⟨hn, k⟩
  · refine l_isStr ?_
    have hl := txt_len hz
    have h4 := hz.1
    walk_at "s"
    refine i_f rfl ?_
    walk_at "s"
    refine i_dec (fun c1 => ?_) (fun c1 => ?_)
    · walk_at "s"
      refine i_b (fun c2 => ?_) (fun c2 => ?_)
      · have n8 : ¬ ((z.length : Int) ≤ 8) := by simpa using c2
        walk_at "s"
        have e : nameB z = false := by
          unfold nameB
          rw [decide_eq_false (show ¬ z.length ≤ 8 by omega), Bool.and_false, Bool.false_and]
        have q := k H (Same.refl H)
        rw [e] at q
        exact q
      · have n8 : ((z.length : Int) ≤ 8) := by simpa using c2
        walk_at "s"
        refine l_lcS badB (fun v => v) (by omega) (fun c _ G _ R r => ?_) (fun c _ _ G _ R r => ?_) (fun D G _ sg eg => ?_)
        · refine s_test (s_op (s_var rfl (s_c (l_ninS (l_bl ?_)))))
          have e : (!decide (c ∈ (Str.ofString "abcdefghijklmnopqrstuvwxyz").cps.toList)) = badB (signV c) := by
            rw [bad_sign]
            exact congrArg _ in_letters
          rw [e]
          exact r G (Same.refl G)
        · exact s_var rfl (r G (Same.refl G))
        · rw [bads] at eg
          walk_at "s"
          refine l_newL (by show 0 ≤ sizeLine; decide) fun p G2 np sp ep => ?_
          refine ⟨D, p, _, rfl, rfl, sp _ _ eg, ep, ?_⟩
          rw [show decide (((z.cps.toList.filter fun c => !small c).map signV).length = 0) = (z.cps.toList.filter fun c => !small c).isEmpty from by
            rw [List.length_map]
            cases z.cps.toList.filter fun c => !small c <;> rfl]
          have e : nameB z = (z.cps.toList.filter (fun c => !small c)).isEmpty := by
            unfold nameB
            rw [decide_eq_true (show 1 ≤ z.length by omega), decide_eq_true (show z.length ≤ 8 by omega), Bool.true_and, Bool.true_and]
            rw [Bool.eq_iff_iff, List.isEmpty_iff, List.filter_eq_nil_iff, List.all_eq_true]
            simp
          have q := k G2 (sg.trans sp)
          rw [e] at q
          exact q
    · walk_at "s"
      refine i_t rfl ?_
      walk_at "s"
      have e : nameB z = false := by
        unfold nameB
        rw [decide_eq_false (show ¬ 1 ≤ z.length by omega), Bool.false_and, Bool.false_and]
      have q := k H (Same.refl H)
      rw [e] at q
      exact q
  · refine l_notStr hn ?_
    walk_at "s"
    refine i_t rfl ?_
    walk_at "s"
    exact k H (Same.refl H)
def intD : PyData → Bool
  | .int _ => true
  | _ => false
/-- isinstance(x, int) and not isinstance(x, bool) -/
theorem dat_isInt {d : Addr} {H : Hp} {x : V} {t : PyData} (h : Dat d H x t) : ∃ b1 b2, (∀ Q : VK, Q (.bl b1) H → rIsi K [x, .ty "int"] H Q) ∧ (∀ Q : VK, Q (.bl b2) H → rIsi K [x, .ty "bool"] H Q) ∧ (b1 && !b2) = intD t := by
  cases h with
  | non => exact ⟨false, false, fun Q q => l_isi (.base .non) (kit_ty (by decide +kernel)) q, fun Q q => l_isi (.base .non) (kit_ty (by decide +kernel)) q, rfl⟩
  | bl b => exact ⟨true, true, fun Q q => l_isi (.base (.bl b)) (kit_ty (by decide +kernel)) q, fun Q q => l_isi (.base (.bl b)) (kit_ty (by decide +kernel)) q, rfl⟩
  | int i => exact ⟨true, false, fun Q q => l_isi (.base (.int i)) (kit_ty (by decide +kernel)) q, fun Q q => l_isi (.base (.int i)) (kit_ty (by decide +kernel)) q, rfl⟩
  | str s => exact ⟨false, false, fun Q q => l_isi (.base (.str s)) (kit_ty (by decide +kernel)) q, fun Q q => l_isi (.base (.str s)) (kit_ty (by decide +kernel)) q, rfl⟩
  | lst e n r => exact ⟨false, false, fun Q q => l_isi (.base (.lst e)) (kit_ty (by decide +kernel)) q, fun Q q => l_isi (.base (.lst e)) (kit_ty (by decide +kernel)) q, rfl⟩
  | tup e r => exact ⟨false, false, fun Q q => l_isi (.base (.tup e)) (kit_ty (by decide +kernel)) q, fun Q q => l_isi (.base (.tup e)) (kit_ty (by decide +kernel)) q, rfl⟩
  | dct e r => exact ⟨false, false, fun Q q => l_isi (.base (.dK e)) (kit_ty (by decide +kernel)) q, fun Q q => l_isi (.base (.dK e)) (kit_ty (by decide +kernel)) q, rfl⟩
def sp_isint : Sp := fun vs H Q _ => ∃ (d : Addr) (x : V) (t : PyData), vs = [x] ∧ Dat d H x t ∧ Q (.bl (intD t)) H
theorem ok__law_is_integer (T : Txt K mg) : FnG P w K mg base CX0 1 T.a__law_is_integer T.d__law_is_integer ["value"] sp_isint := by
  refine okG T.F__law_is_integer sc__law_is_integer (fun vs H Q E h => ?_) (fun cdv A fs s H vs Q E hr h => ?_)
  · obtain ⟨d, x, t, rfl, _⟩ := h
    rfl
  obtain ⟨d, x, t, rfl, dt, k⟩ := h
  have nd := sc__law_is_integer.nd
  refine ⟨_, ((pss_one (ps_ret (pe_and (pe_callB call_isi (by rfl) T.z_isinstance (by decide +kernel) (pa_cons (pv 0) (pa_cons (pe_tyV (n := "int") (by rfl) T.z_int (by decide +kernel)) pa_nil))) (pe_one (pe_not (pe_callB call_isi (by rfl) T.z_isinstance (by decide +kernel) (pa_cons (pv 0) (pa_cons (pe_tyV (n := "bool") (by rfl) T.z_bool (by decide +kernel)) pa_nil))))))))), ?_⟩
  walk_at "s"
  obtain ⟨b1, b2, h1, h2, e⟩ := dat_isInt (K := K) dt
  refine h1 _ ?_
  rw [← e] at k
  refine l_bl (i_b (fun z => ?_) (fun z => ?_))
  · walk_at "s"
    refine h2 _ ?_
    walk_at "s"
    rw [z, Bool.true_and] at k
    exact k
  · rw [z, Bool.false_and] at k
    exact k
theorem ok__law_is_item (T : Txt K mg) : FnG P w K mg base CX0 3 T.a__law_is_item T.d__law_is_item ["pairs", "value"] sp_item_with := by
  have G__law_is_name : FnG P w K mg base CX0 1 T.a__law_is_name T.d__law_is_name ["value"] (sp_told K nameB) := ok__law_is_name T
  have G__law_is_integer : FnG P w K mg base CX0 1 T.a__law_is_integer T.d__law_is_integer ["value"] sp_isint := ok__law_is_integer T
  have HP := @PassesOwn.never
  refine okG T.F__law_is_item sc__law_is_item (fun vs H Q E h => ?_) (fun cdv A fs s H vs Q E hr h => ?_)
  · obtain ⟨d, p, kvs, b, x, t, rfl, _⟩ := h
    rfl
  obtain ⟨d, p, kvs, b, x, t, rfl, hp, rows, nb, dt, tx, k⟩ := h
  have nd := sc__law_is_item.nd
  refine ⟨_, ((pss_cons (ps_if (PW.pt (pw_or (pt_not (pt_val (pe_callB call_isi (by rfl) T.z_isinstance (by decide +kernel) (pa_cons (pv 1) (pa_cons (pe_tyV (n := "tuple") (by rfl) T.z_tuple (by decide +kernel)) pa_nil))))) (pw_or1 (pt_cmpR (op_eqT1 hr) (pv 1) (pe_tup (pa_cons pe_str pa_nil)) (nomark _))))) (pss_one (ps_ret (pe_cmpR (op_eqT1 hr) (pv 1) (pe_tup (pa_cons pe_str pa_nil)) (nomark _)))) pss_nil)
  (pss_cons (ps_if (PW.pt (pw_or (pt_cmpR op_ne (pe_callB c_len (by rfl) T.z_len (by decide +kernel) (pa_cons (pv 1) pa_nil)) pe_int (nomark _)) (pw_or (pt_cmpR (op_neS hr) (pe_ix ix_tup (pv 1) pe_int (fun _ _ => rfl)) pe_str (nomark _)) (pw_or (pt_not (pt_val (pe_callB call_isi (by rfl) T.z_isinstance (by decide +kernel) (pa_cons (pe_ix ix_tup (pv 1) pe_int (fun _ _ => rfl)) (pa_cons (pe_tyV (n := "str") (by rfl) T.z_str (by decide +kernel)) pa_nil))))) (pw_or1 (pt_cmpR (op_dNin hr.hu) (pe_ix ix_tup (pv 1) pe_int (fun _ _ => rfl)) (pv 0) (by rfl))))))) (pss_one (ps_ret pe_bl)) pss_nil)
  (pss_cons (ps_if (PW.pt (pw_or (pt_not (pt_val (pe_callB call_isi (by rfl) T.z_isinstance (by decide +kernel) (pa_cons (pe_ix ix_tup (pv 1) pe_int (fun _ _ => rfl)) (pa_cons (pe_tyV (n := "tuple") (by rfl) T.z_tuple (by decide +kernel)) pa_nil))))) (pw_or1 (pt_cmpR op_ne (pe_callB c_len (by rfl) T.z_len (by decide +kernel) (pa_cons (pe_ix ix_tup (pv 1) pe_int (fun _ _ => rfl)) pa_nil)) (pe_ix ix_tup (pe_dget hr.hu (pv 0) (pe_ix ix_tup (pv 1) pe_int (fun _ _ => rfl)) (fun _ _ => rfl)) pe_int (fun _ _ => rfl)) (nomark _))))) (pss_one (ps_ret pe_bl)) pss_nil)
  (pss_cons (ps_for HP rfl (pi_tup (pe_ix ix_tup (pv 1) pe_int (fun _ _ => rfl))) (pg_name (i := 2) nd rfl (Or.inl rfl)) (pss_one (ps_if (PW.pt (pw_and (pt_cmpR op_notN (pv 2) pe_non (nomark _)) (pw_and (pt_not (pt_val (pe_callG G__law_is_name (hr.down (by decide)) rfl T.m__law_is_name T.F__law_is_name.kp T.b__law_is_name .nil pass0 (pa_cons (pv 2) pa_nil)))) (pw_and1 (pt_not (PW.pt (pw_and (pt_val (pe_callG G__law_is_integer (hr.down (by decide)) rfl T.m__law_is_integer T.F__law_is_integer.kp T.b__law_is_integer .nil pass0 (pa_cons (pv 2) pa_nil))) (pw_and1 (pt_cmpR op_ge (pv 2) pe_int (nomark _)))))))))) (pss_one (ps_ret pe_bl)) pss_nil)))
  (pss_one (ps_ret pe_bl))))))), ?_⟩
  walk_at "s"
  rcases dat_tupOr (K := K) dt with ⟨a, xs, ts, rfl, rfl, ea, ds⟩ | ⟨no, nt⟩
  · refine l_isTup ea ?_
    walk_at "s"
    refine i_f rfl ?_
    walk_at "s"
    refine l_newT (xs := [V.str "mark"]) (by show 1 ≤ sizeLine; decide) fun l1 G1 n1 s1 e1 => ?_
    refine ⟨d, l1, _, "mark", dt.same s1, rfl, tup_at e1, ?_⟩
    refine l_bl (i_b (fun im => ?_) (fun im => ?_))
    · walk_at "s"
      refine l_newT (xs := [V.str "mark"]) (by show 1 ≤ sizeLine; decide) fun l2 G2 n2 s2 e2 => ?_
      refine ⟨d, l2, _, "mark", dt.same (s1.trans s2), rfl, tup_at e2, ?_⟩
      have q := k G2 (s1.trans s2)
      have e : itemD b (.tuple ts) = isS1 (.tuple ts) "mark" := by
        rw [isS1_eq im]
        rfl
      rw [e] at q
      exact q
    have notm : ∀ G, Same H G → itemD b (.tuple ts) = false → Q (.bl false) G := fun G s e => by
      have q := k G s
      rw [e] at q
      exact q
    have ea1 := s1 _ _ ea
    have ds1 := Dats.same s1 ds
    walk_at "s"
    refine l_lenT (tup_at ea1) ?_
    walk_at "s"
    rw [ds.len]
    by_cases h3 : ts.length = 3
    · refine i_f (by rw [h3]; rfl) ?_
      obtain ⟨xw, xc, xa, tw, tc, ta, rfl, rfl, dw, dc, da⟩ := dats3 ds1 h3
      walk_at "s"
      refine l_ixT (tup_at ea1) (i := 0) (v := xw) rfl ?_
      walk_at "s"
      refine ⟨d, tw, "send", dw, rfl, ?_⟩
      refine l_bl (i_b (fun b1 => ?_) (fun b1 => ?_))
      · walk_at "s"
        have b2 : isS tw "send" = false := by simpa using b1
        exact notm G1 s1 (by show (isS tw "send" && _) = false; rw [b2, Bool.false_and])
      have b2 : isS tw "send" = true := by simpa using b1
      walk_at "s"
      refine l_ixT (tup_at ea1) (i := 1) (v := xc) rfl ?_
      walk_at "s"
      rcases dat_strOr (K := K) dc with ⟨cs, rfl, rfl⟩ | ⟨ns, nt⟩
      · refine l_isStr ?_
        walk_at "s"
        refine i_f rfl ?_
        walk_at "s"
        refine l_ixT (tup_at ea1) (i := 1) (v := .str cs) rfl ?_
        walk_at "s"
        have hp1 := rd_same s1 hp
        refine l_dNin (rows_get (b := b) hp1) ?_
        refine l_bl ?_
        rw [rows.has nb]
        by_cases hc : cs ∈ b.map (·.1)
        · rw [decide_eq_true hc]
          refine i_f rfl ?_
          walk_at "s"
          refine l_ixT (tup_at ea1) (i := 2) (v := xa) rfl ?_
          walk_at "s"
          obtain ⟨e, he, rfl⟩ := List.mem_map.mp hc
          have tk := tk_some nb he
          have kq : itemD b (.tuple [tw, .str e.1, ta]) = (match ta with | .tuple as => decide (as.length = e.2.1) && as.all argD | _ => false) := by
            show (isS tw "send" && _) = _
            rw [b2, Bool.true_and]
            cases ta <;> simp only [tk]
          rcases dat_tupOr (K := K) da with ⟨a2, ys, us, rfl, rfl, ea2, ds2⟩ | ⟨no2, nt2⟩
          · refine l_isTup ea2 ?_
            walk_at "s"
            refine i_f rfl ?_
            walk_at "s"
            refine l_ixT (tup_at ea1) (i := 2) (v := .ref a2) rfl ?_
            walk_at "s"
            refine l_lenT (tup_at ea2) ?_
            walk_at "s"
            refine l_ixT (tup_at ea1) (i := 1) (v := .str e.1) rfl ?_
            walk_at "s"
            obtain ⟨v, ev, pr, an, rfl, h1, h2⟩ := rows.find nb he
            refine ⟨p, .ref pr, rfl, ?_, ?_⟩
            · rw [← ev]
              exact rows_get (b := b) hp1
            walk_at "s"
            refine l_ixT (tup_at (s1 _ _ h1)) at0 ?_
            walk_at "s"
            rw [ds2.len]
            by_cases hl : us.length = e.2.1
            · refine i_f (by rw [hl, decide_eq_true rfl]; rfl) ?_
              walk_at "s"
              refine l_ixT (tup_at ea1) (i := 2) (v := .ref a2) rfl ?_
              have kq2 : itemD b (.tuple [tw, .str e.1, .tuple us]) = us.all argD := by
                rw [kq]
                show (decide (us.length = e.2.1) && us.all argD) = _
                rw [decide_eq_true hl, Bool.true_and]
              obtain ⟨tx2, us1⟩ : Txs us ∧ us.length ≤ 1000 := (tx.its.1.mem (.tuple us) (List.mem_cons_of_mem _ (List.mem_cons_of_mem _ List.mem_cons_self))).its
              refine l_forT (tup_at ea2) (fun i τ G => Same G1 G ∧ (∃ z, τ = [some (.ref p), some (.ref a), z]) ∧ (us.take i).all argD = true) ⟨Same.refl G1, ⟨none, rfl⟩, rfl⟩ (fun i τ G _ h => sqt_same h.1 (tup_at ea2)) (fun i x τ G hi h => ?_) (fun τ G h => ?_)
              · obtain ⟨sg, ⟨z, rfl⟩, al⟩ := h
                obtain ⟨u, hu, du⟩ := ds2.at hi
                have du' := du.same sg
                have tu : us.take (i + 1) = us.take i ++ [u] := by
                  rw [List.take_add_one, hu]
                  rfl
                have al2 : (us.take (i + 1)).all argD = argD u := by
                  rw [tu, List.all_append, al, Bool.true_and]
                  show (argD u && true) = _
                  rw [Bool.and_true]
                have bad : argD u = false → us.all argD = false := fun z => by
                  rw [List.all_eq_false]
                  exact ⟨u, List.mem_of_getElem? hu, by rw [z]; exact Bool.false_ne_true⟩
                have txu := tx2.mem u (List.mem_of_getElem? hu)
                walk_at "s"
                refine ⟨rfl, l_bl ?_⟩
                have next : ∀ J, Same G J → argD u = true → (Same G1 J ∧ (∃ z, ([some (V.ref p), some (V.ref a), some x] : L2.St) = [some (V.ref p), some (V.ref a), z]) ∧ (us.take (i + 1)).all argD = true) := fun J sj e => ⟨sg.trans sj, ⟨_, rfl⟩, al2.trans e⟩
                have stop : ∀ J, Same G J → argD u = false → Q (.bl false) J := fun J sj e => by
                  have q := k J (s1.trans (sg.trans sj))
                  rw [kq2, bad e] at q
                  exact q
                rcases dat_strOr (K := K) du' with ⟨z2, rfl, rfl⟩ | ⟨ns2, nt2⟩
                · cases txu with
                  | str hz =>
                    refine i_t (by rw [decide_eq_false fun q => by cases q]; rfl) ?_
                    walk_at "s"
                    refine ⟨_, rfl, Or.inl ⟨z2, rfl, hz, fun J sj => ?_⟩⟩
                    refine l_bl (i_b (fun b3 => ?_) (fun b3 => ?_))
                    · walk_at "s"
                      have b4 : nameB z2 = false := by simpa using b3
                      refine ⟨d, _, _, rfl, du'.same sj, ?_⟩
                      refine l_bl (i_f rfl ?_)
                      refine i_t rfl ?_
                      walk_at "s"
                      exact stop J sj b4
                    · have b4 : nameB z2 = true := by simpa using b3
                      refine i_f rfl ?_
                      walk_at "s"
                      exact next J sj b4
                · by_cases xn : x = .non
                  · subst xn
                    cases du'
                    refine i_f (by rw [decide_eq_true rfl]; rfl) ?_
                    refine i_f rfl ?_
                    walk_at "s"
                    exact next G (Same.refl G) rfl
                  · refine i_t (by rw [decide_eq_false xn]; rfl) ?_
                    walk_at "s"
                    refine ⟨_, rfl, Or.inr ⟨ns2, fun J sj => ?_⟩⟩
                    refine l_bl (i_t rfl ?_)
                    walk_at "s"
                    refine ⟨d, x, u, rfl, du'.same sj, ?_⟩
                    refine l_bl ?_
                    have dj := du'.same sj
                    cases du' with
                    | int i2 =>
                      refine i_t rfl ?_
                      walk_at "s"
                      refine i_b (fun b3 => ?_) (fun b3 => ?_)
                      · walk_at "s"
                        exact stop J sj (by show decide (0 ≤ i2) = false; simpa using b3)
                      · walk_at "s"
                        exact next J sj (by show decide (0 ≤ i2) = true; simpa using b3)
                    | non => exact absurd rfl xn
                    | str s => exact absurd rfl (nt2 s)
                    | _ =>
                      refine i_f rfl ?_
                      refine i_t rfl ?_
                      walk_at "s"
                      exact stop J sj rfl
              · obtain ⟨sg, ⟨z, rfl⟩, al⟩ := h
                rw [ds2.len, List.take_length] at al
                walk_at "s"
                have q := k G (s1.trans sg)
                rw [kq2, al] at q
                exact q
            · refine i_t (by rw [decide_eq_false (fun z => hl (by injection z with z; omega))]; rfl) ?_
              walk_at "s"
              exact notm G1 s1 (by
                rw [kq]
                show (decide (us.length = e.2.1) && us.all argD) = false
                rw [decide_eq_false hl, Bool.false_and])
          · refine no2 _ ?_
            walk_at "s"
            refine i_t rfl ?_
            refine i_t rfl ?_
            walk_at "s"
            exact notm G1 s1 (by
              rw [kq]
              cases ta with
              | tuple us => exact absurd rfl (nt2 us)
              | _ => rfl)
        · rw [decide_eq_false hc]
          refine i_t rfl ?_
          walk_at "s"
          exact notm G1 s1 (by
            show (isS tw "send" && _) = false
            rw [b2, Bool.true_and]
            cases ta <;> simp only [tk_none hc])
      · refine l_notStr ns ?_
        walk_at "s"
        refine i_t rfl ?_
        refine i_t rfl ?_
        walk_at "s"
        exact notm G1 s1 (by
          show (isS tw "send" && _) = false
          rw [b2, Bool.true_and]
          cases tc with
          | str s => exact absurd rfl (nt s)
          | _ => rfl)
    · refine i_t (by rw [decide_eq_false (fun z => h3 (by injection z with z; omega))]; rfl) ?_
      walk_at "s"
      exact notm G1 s1 (by rw [item_len h3]; exact im)
  · refine no _ ?_
    walk_at "s"
    refine i_t rfl ?_
    refine i_t rfl ?_
    walk_at "s"
    refine l_newT (xs := [V.str "mark"]) (by show 1 ≤ sizeLine; decide) fun l2 G2 n2 s2 e2 => ?_
    refine ⟨d, l2, _, "mark", dt.same s2, rfl, tup_at e2, ?_⟩
    have e : itemD b t = isS1 t "mark" := by
      cases t with
      | tuple ts => exact absurd rfl (nt ts)
      | _ => rfl
    rw [← e]
    exact k G2 s2
end
/-! ### the law's rows and items -/
section
variable {P : Program} {w : World} {K : PySem.W.Frag} {mg : Str → Option Value} {base : Heap}
def listed (b : PB) (l : List Str) : Prop := (∀ s, s ∈ l ↔ s = "failed" ∨ ∃ e ∈ b, s ∈ e.2.2) ∧ l.length ≤ 20 ∧ (∀ s ∈ l, nameB s = true) ∧ 0 < l.length
def sp__law_all_outcomes : Sp := fun vs H Q _ => ∃ (p : Addr) (b : PB), vs = [.ref p] ∧ PairsAt H p b ∧ RawB b ∧ ∀ q G l, H q = none → Same H G → G q = some (.lst (l.map V.str)) → listed b l → Q (.ref q) G
theorem ok__law_all_outcomes (T : Txt K mg) : FnG P w K mg base CX0 1 T.a__law_all_outcomes T.d__law_all_outcomes ["pairs"] sp__law_all_outcomes := by
  have HP := @PassesOwn.never
  refine okG T.F__law_all_outcomes sc__law_all_outcomes (fun vs H Q E h => ?_) (fun cdv A fs s H vs Q E hr h => ?_)
  · obtain ⟨p, b, rfl, _⟩ := h
    rfl
  obtain ⟨p, b, rfl, ⟨kvs, ep, rows⟩, raw, k⟩ := h
  have nd := sc__law_all_outcomes.nd
  refine ⟨_, ((pss_cons (ps_set (i := 1) nd rfl (Or.inr rfl) (pe_lst (pa_cons pe_str pa_nil)))
  (pss_cons (ps_lock (ps_for HP rfl (pi_keys (pv 0)) (pg_name (i := 2) nd rfl (Or.inl rfl)) (pss_one (ps_expr (pe_bm PySem.F.plainAttrs_list PySem.F.slot_list_extend PySem.F.type_list_extend mt_extend (pv 1) (pa_cons (pe_lc (own := [("one", 3)]) rfl nd (pi_tup (pe_ix ix_tup (pe_dget hr.hu (pv 0) (pv 2) (fun _ _ => rfl)) pe_int (fun _ _ => rfl))) (blkOk_by (own := [("one", 3)]) (N := ["pairs", "found", "command", "one"]) (sc := defScope s__law_all_outcomes) (by decide +kernel)) (fun _ _ _ _ _ => pg_name (i := 3) nd rfl (Or.inl rfl)) (fun _ _ _ _ _ => by exact (pts_one (pt_cmpR (show OpR _ _ (rIn K true) from op_notIn_seq) (pv 3) (pv 1) (by rfl)))) (fun _ _ _ _ _ => by exact (pv 3))) pa_nil))))))
  (pss_one (ps_ret (pv 1)))))), ?_⟩
  walk_at "s"
  refine l_newL (xs := [V.str "failed"]) (by show 1 ≤ sizeLine; decide) fun q G0 nq sq eq => ?_
  walk_at "s"
  have ep0 := sq _ _ ep
  have rows0 := rows.same sq
  have npq : p ≠ q := ne_of_none ep nq
  have n6 := raw.n6
  have lk := rows.len
  refine l_forKw (kvs := kvs) (fun od R r => s_var rfl r) ep0 (fun od i τ G => ∃ (l : List Str) (z : Option V), τ = [some (.ref p), some (.ref q), z, none] ∧ Keep q (locked G0 p od kvs) G ∧ G q = some (.lst (l.map V.str)) ∧ (∀ s, s ∈ l ↔ s = "failed" ∨ ∃ e ∈ b.take i, s ∈ e.2.2) ∧ l.length ≤ 1 + 3 * i ∧ (∀ s ∈ l, nameB s = true) ∧ 0 < l.length) ?_ ?_ ?_ ?_
  · intro od
    refine ⟨["failed"], none, rfl, Keep.refl _, ?_, fun s => ?_, by simp, fun s hs => ?_, by simp⟩
    · show upd G0 p _ q = _
      rw [upd_ne (Ne.symm npq)]
      exact eq
    · rw [List.mem_singleton, List.take_zero]
      exact ⟨Or.inl, fun h => h.elim id fun ⟨_, m, _⟩ => nomatch m⟩
    · rw [List.mem_singleton.mp hs]
      decide +kernel
  · intro od i τ G h
    obtain ⟨l, z, _, kp, _⟩ := h
    exact kp _ _ npq upd_same
  · intro od i kk v τ G hk h R r
    obtain ⟨l, z, rfl, kp, el, mem, len, nm, pos⟩ := h
    have mk : kk ∈ kvs.map (·.1) := List.mem_map_of_mem (List.mem_of_getElem? hk)
    have gp : G p = some (.frz od (.dK kvs)) := kp _ _ npq upd_same
    have hi : i < b.length := by
      rw [← lk]
      exact (List.getElem?_eq_some_iff.mp hk).1
    have hb : b[i]? = some b[i] := List.getElem?_eq_getElem hi
    have he : b[i] ∈ b := List.getElem_mem hi
    have hkk : kk = .inr b[i].1 := by
      have e := congrArg (fun l => l[i]?) rows.keys
      simp only [List.getElem?_map, hk, hb, Option.map_some] at e
      exact Option.some.inj e
    subst hkk
    generalize ee : b[i] = e at *
    have gpr := raw.pr e he
    walk_at "s"
    refine ⟨.ref q, rfl, Or.inl ⟨rfl, _, SqL.of el⟩, ?_⟩
    walk_at "s"
    obtain ⟨v2, ev, pr, an, rfl, h1, h2⟩ := rows0.find raw.nd he
    have nl : ∀ {x : Addr} {xs : List V}, G0 x = some (.tup xs) → G x = some (.tup xs) := fun {x xs} hx => by
      have x1 : x ≠ p := fun z => by rw [z, ep0] at hx; cases hx
      have x2 : x ≠ q := fun z => by rw [z, eq] at hx; cases hx
      exact kp x _ x2 (by show upd G0 p _ x = _; rw [upd_ne x1]; exact hx)
    refine ⟨p, .ref pr, rfl, ?_, ?_⟩
    · rw [← ev]
      exact rows_get (b := b) (Or.inr ⟨od, gp⟩)
    walk_at "s"
    refine l_ixT (tup_at (nl h1)) at1 ?_
    have fl : (l.map V.str).all flatV = true := all_flat l
    refine l_lcT (tup_at (nl h2)) (fun x => !(inV x (l.map V.str))) (fun x => x) (by rw [List.length_map]; have := gpr.2.2.2.1; omega) (fun x hx J sj R r => ?_) (fun x hx _ J sj R r => ?_) (fun D J nD sj eD => ?_)
    · obtain ⟨s, hs, rfl⟩ := List.mem_map.mp hx
      refine s_test (s_op (s_var rfl (s_var rfl ⟨q, l.map V.str, rfl, Or.inl (SqL.of (sj _ _ el)), rfl, fl, ?_⟩)))
      rw [if_pos rfl]
      exact l_bl (r J (Same.refl J))
    · exact s_var rfl (r J (Same.refl J))
    · walk_at "s"
      have e3 : (((e.2.2.map V.str).filter fun x => !(inV x (l.map V.str))).map fun x => x) = (e.2.2.filter fun s => !(l.any fun y => y == s)).map V.str := by
        rw [List.map_id', List.filter_map]
        congr 1
        refine List.filter_congr fun s _ => ?_
        show (!inV (.str s) (l.map V.str)) = _
        unfold inV
        rw [List.any_map]
        rfl
      rw [e3] at eD
      have elj := sj _ _ el
      have fs3 : (e.2.2.filter fun s => !(l.any fun y => y == s)).length ≤ 3 := Nat.le_trans (List.length_filter_le _ _) gpr.2.2.2.1
      refine l_ext elj eD (by rw [List.length_map, List.length_map, sizeLine_eq]; omega) ?_
      walk_at "s"
      refine r _ _ ⟨l ++ e.2.2.filter fun s => !(l.any fun y => y == s), _, rfl, ?_, by rw [upd_same, List.map_append], fun s => ?_, by rw [List.length_append]; omega, fun s hs => ?_, by rw [List.length_append]; omega⟩
      · exact (kp.trans (Keep.of sj)).set
      · rw [List.mem_append, mem, List.mem_filter, List.take_add_one, hb]
        constructor
        · rintro ((h | ⟨x, hx, hs⟩) | ⟨hs, _⟩)
          · exact Or.inl h
          · exact Or.inr ⟨x, List.mem_append_left _ hx, hs⟩
          · exact Or.inr ⟨e, List.mem_append_right _ (by simp [ee]), hs⟩
        · rintro (h | ⟨x, hx, hs⟩)
          · exact Or.inl (Or.inl h)
          · rcases List.mem_append.mp hx with hx | hx
            · exact Or.inl (Or.inr ⟨x, hx, hs⟩)
            · have hx : x = e := by simpa [ee] using hx
              subst hx
              cases hl : l.any fun y => y == s with
              | true =>
                obtain ⟨y, hy, z⟩ := List.any_eq_true.mp hl
                rw [eq_of_beq z] at hy
                exact Or.inl ((mem s).mp hy)
              | false => exact Or.inr ⟨hs, rfl⟩
      · rcases List.mem_append.mp hs with h | h
        · exact nm s h
        · exact answer_name (gpr.2.2.2.2 s (List.mem_filter.mp h).1)
  · intro od τ G h
    obtain ⟨l, z, rfl, kp, el, mem, len, nm, pos⟩ := h
    walk_at "s"
    have gp : G p = some (.frz od (.dK kvs)) := kp _ _ npq upd_same
    refine k q _ l nq (fun x u hx => ?_) (by rw [upd_ne (Ne.symm npq)]; exact el) ⟨fun s => ?_, by omega, nm, pos⟩
    · by_cases xp : x = p
      · subst xp
        rw [upd_same, ← hx, ep]
      · rw [upd_ne xp]
        exact kp x u (ne_of_none hx nq) (by show upd G0 p _ x = _; rw [upd_ne xp]; exact sq _ _ hx)
    · rw [mem s, lk, List.take_length]
end
section
variable {P : Program} {w : World} {K : PySem.W.Frag} {mg : Str → Option Value} {base : Heap}
theorem mem_outs {as : List Str} {s : Str} : s ∈ outs as ↔ s ∈ as ∨ s = "failed" := by
  unfold outs
  rw [(sortS_perm _).mem_iff, List.mem_append, List.mem_singleton]
theorem listed_in {b : PB} {l : List Str} (raw : RawB b) (h : listed b l) (s : Str) : s ∈ l ↔ ∃ e ∈ b, s ∈ outs e.2.2 := by
  rw [h.1 s]
  constructor
  · rintro (rfl | ⟨e, he, hs⟩)
    · have n1 := raw.n1
      match b, n1 with
      | e :: r, _ => exact ⟨e, List.mem_cons_self, mem_outs.mpr (Or.inr rfl)⟩
    · exact ⟨e, he, mem_outs.mpr (Or.inl hs)⟩
  · rintro ⟨e, he, hs⟩
    rcases mem_outs.mp hs with h | h
    · exact Or.inr ⟨e, he, h⟩
    · exact Or.inl h
def sp__law_is_row : Sp := fun vs H Q _ => ∃ (d p : Addr) (b : PB) (x : V) (t : PyData), vs = [.ref p, x] ∧ PairsAt H p b ∧ RawB b ∧ Dat d H x t ∧ Tx t ∧ ∀ G, Same H G → Q (.bl (rowD b t)) G
theorem ok__law_is_row (T : Txt K mg) : FnG P w K mg base CX0 2 T.a__law_is_row T.d__law_is_row ["pairs", "value"] sp__law_is_row := by
  have G__law_all_outcomes : FnG P w K mg base CX0 1 T.a__law_all_outcomes T.d__law_all_outcomes ["pairs"] sp__law_all_outcomes := ok__law_all_outcomes T
  refine okG T.F__law_is_row sc__law_is_row (fun vs H Q E h => ?_) (fun cdv A fs s H vs Q E hr h => ?_)
  · obtain ⟨d, p, b, x, t, rfl, _⟩ := h
    rfl
  obtain ⟨d, p, b, x, t, rfl, pk, raw, dt, tx, k⟩ := h
  have nd := sc__law_is_row.nd
  refine ⟨_, ((pss_cons (ps_if (pt_not (pt_val (pe_callB call_isi (by rfl) T.z_isinstance (by decide +kernel) (pa_cons (pv 1) (pa_cons (pe_tyV (n := "tuple") (by rfl) T.z_tuple (by decide +kernel)) pa_nil))))) (pss_one (ps_ret pe_bl)) pss_nil)
  (pss_cons (ps_set (i := 2) nd rfl (Or.inr rfl) (pe_callG G__law_all_outcomes (hr.down (by decide)) rfl T.m__law_all_outcomes T.F__law_all_outcomes.kp T.b__law_all_outcomes .nil pass0 (pa_cons (pv 0) pa_nil)))
  (pss_one (ps_ret (pe_cmpR (op_eqL0 hr) (pe_lc (own := [("one", 3)]) rfl nd (pi_tup (pv 1)) (blkOk_by (own := [("one", 3)]) (N := ["pairs", "value", "outcomes", "one"]) (sc := defScope s__law_is_row) (by decide +kernel)) (fun _ _ _ _ _ => pg_name (i := 3) nd rfl (Or.inl rfl)) (fun _ _ _ _ _ => by exact (pts_one (PW.pt (pw_or (pt_not (pt_val (pe_callB (show CallR _ _ (rIsi K) from call_isi) (by rfl) T.z_isinstance (by decide +kernel) (pa_cons (pv 3) (pa_cons (pe_tyV (n := "str") (by rfl) T.z_str (by decide +kernel)) pa_nil))))) (pw_or1 (pt_cmpR (show OpR _ _ (rIn K true) from op_notIn_seq) (pv 3) (pv 2) (by rfl))))))) (fun _ _ _ _ _ => by exact (pv 3))) (pe_lst pa_nil) (nomark _))))))), ?_⟩
  walk_at "s"
  rcases dat_tupOr (K := K) dt with ⟨a, xs, ts, rfl, rfl, ea, ds⟩ | ⟨no, nt⟩
  · refine l_isTup ea ?_
    walk_at "s"
    refine i_f rfl ?_
    walk_at "s"
    refine ⟨p, b, rfl, pk, raw, fun q G l nq sq eq ls => ?_⟩
    walk_at "s"
    obtain ⟨txs, ln⟩ := tx.its
    have ea1 := sq _ _ ea
    refine l_lcTx (tup_at ea1) (ts.map fun t => !inOut b t) xs (by rw [List.length_map, ds.len]) rfl (by rw [ds.len]; omega) (fun n x bb hx hb J sj R r => ?_) (fun n x v hx _ hv J sj R r => ?_) (fun D J nD sj eD => ?_)
    · obtain ⟨u, hu, du⟩ := ds.at hx
      rw [List.getElem?_map, hu] at hb
      obtain rfl := Option.some.inj hb
      walk_at "s"
      rcases dat_strOr (K := K) (du.same (sq.trans sj)) with ⟨z, rfl, rfl⟩ | ⟨ns, nt⟩
      · refine l_isStr ?_
        walk_at "s"
        refine i_f rfl ?_
        walk_at "s"
        refine ⟨q, l.map V.str, rfl, Or.inl (SqL.of (sj _ _ eq)), rfl, all_flat l, ?_⟩
        rw [if_pos rfl]
        have e : inV (.str z) (l.map V.str) = inOut b (.str z) := by
          unfold inV
          rw [List.any_map]
          show l.any (fun y => y == z) = decide _
          rw [Bool.eq_iff_iff, List.any_eq_true, decide_eq_true_iff, ← listed_in raw ls]
          exact ⟨fun ⟨y, hy, e⟩ => by rw [← eq_of_beq e]; exact hy, fun h => ⟨z, h, beq_self_eq_true z⟩⟩
        rw [e]
        exact l_bl (r J (Same.refl J))
      · refine l_notStr ns ?_
        walk_at "s"
        refine i_t rfl ?_
        have e : inOut b u = false := by
          cases u with
          | str s => exact absurd rfl (nt s)
          | _ => rfl
        have q2 : R (!inOut b u) J := r J (Same.refl J)
        rw [e] at q2
        exact q2
    · rw [hx] at hv
      obtain rfl := Option.some.inj hv
      exact s_var rfl (r J (Same.refl J))
    · walk_at "s"
      refine l_newL (xs := []) (by show 0 ≤ sizeLine; decide) fun D2 J2 n2 s2 e2 => ?_
      refine ⟨D, D2, _, rfl, rfl, s2 _ _ eD, e2, ?_⟩
      have e : decide ((pick xs (ts.map fun t => !inOut b t)).length = 0) = rowD b (.tuple ts) := by
        show _ = ts.all (inOut b)
        rw [Bool.eq_iff_iff, decide_eq_true_iff, pick_none (by rw [List.length_map, ds.len]), List.all_eq_true]
        constructor
        · intro h u hu
          simpa using h _ (List.mem_map_of_mem hu)
        · intro h y hy
          obtain ⟨u, hu, rfl⟩ := List.mem_map.mp hy
          rw [h u hu]
          rfl
      rw [e]
      exact k J2 ((sq.trans sj).trans s2)
  · refine no _ ?_
    walk_at "s"
    refine i_t rfl ?_
    walk_at "s"
    have q := k H (Same.refl H)
    have e6 : rowD b t = false := by
      cases t with
      | tuple us => exact absurd rfl (nt us)
      | _ => rfl
    rw [e6] at q
    exact q
def sendB (ts : List PyData) (i : Nat) : Bool := match ts[i]? with
  | some t => !isS1 t "mark"
  | none => false
/-- the places of the sends ahead of place n -/
def sendsAt (ts : List PyData) (n : Nat) : List Int := ((List.range n).filter (sendB ts)).map fun (i : Nat) => (i : Int)
theorem sends_succ {ts : List PyData} {n : Nat} {t : PyData} (h : ts[n]? = some t) : sendsAt ts (n + 1) = sendsAt ts n ++ (if isS1 t "mark" = true then [] else [(n : Int)]) := by
  have e : sendB ts n = !isS1 t "mark" := by
    unfold sendB
    rw [h]
  unfold sendsAt
  rw [List.range_succ, List.filter_append, List.map_append]
  congr 1
  rw [List.filter_cons, e]
  cases isS1 t "mark" <;> rfl
theorem sends_len {ts : List PyData} {n : Nat} : (sendsAt ts n).length ≤ n := by
  unfold sendsAt
  rw [List.length_map]
  exact Nat.le_trans (List.length_filter_le _ _) (by rw [List.length_range]; exact Nat.le_refl _)
theorem stand_in {ts : List PyData} {n : Nat} {i : Int} (h : 0 ≤ i) (l : n ≤ ts.length) : standD ts n (.int i) = decide (i ∈ sendsAt ts n) := by
  show (!decide (0 ≤ i) || (decide (i < (n : Int)) && !(match ts[i.toNat]? with | some t => isS1 t "mark" | none => false))) = _
  rw [decide_eq_true h]
  show (decide (i < (n : Int)) && !(match ts[i.toNat]? with | some t => isS1 t "mark" | none => false)) = _
  rw [Bool.eq_iff_iff, Bool.and_eq_true, decide_eq_true_iff, decide_eq_true_iff]
  unfold sendsAt
  rw [List.mem_map]
  constructor
  · rintro ⟨lt, m⟩
    refine ⟨i.toNat, List.mem_filter.mpr ⟨List.mem_range.mpr (by omega), ?_⟩, by omega⟩
    unfold sendB
    have hl : i.toNat < ts.length := by omega
    rw [List.getElem?_eq_getElem hl] at m ⊢
    exact m
  · rintro ⟨j, hj, rfl⟩
    obtain ⟨h1, h2⟩ := List.mem_filter.mp hj
    have jn := List.mem_range.mp h1
    unfold sendB at h2
    refine ⟨by omega, ?_⟩
    have e : ((j : Nat) : Int).toNat = j := by omega
    rw [e]
    have hl : j < ts.length := by omega
    rw [List.getElem?_eq_getElem hl] at h2 ⊢
    exact h2
def sp__law_are_items : Sp := fun vs H Q _ => ∃ (d p : Addr) (b : PB) (x : V) (t : PyData), vs = [.ref p, x] ∧ PairsAt H p b ∧ RawB b ∧ Dat d H x t ∧ Tx t ∧ ∀ G, Same H G → Q (.bl (itemsD b t)) G
theorem ok__law_are_items (T : Txt K mg) : FnG P w K mg base CX0 4 T.a__law_are_items T.d__law_are_items ["pairs", "value"] sp__law_are_items := by
  have G__law_is_item : FnG P w K mg base CX0 3 T.a__law_is_item T.d__law_is_item ["pairs", "value"] sp_item_with := ok__law_is_item T
  have G__law_is_integer : FnG P w K mg base CX0 1 T.a__law_is_integer T.d__law_is_integer ["value"] sp_isint := ok__law_is_integer T
  have HP := @PassesOwn.never
  refine okG T.F__law_are_items sc__law_are_items (fun vs H Q E h => ?_) (fun cdv A fs s H vs Q E hr h => ?_)
  · obtain ⟨d, p, b, x, t, rfl, _⟩ := h
    rfl
  obtain ⟨d, p, b, x, t, rfl, pk, raw, dt, tx, k⟩ := h
  have nd := sc__law_are_items.nd
  refine ⟨_, ((pss_cons (ps_if (PW.pt (pw_or (pt_not (pt_val (pe_callB call_isi (by rfl) T.z_isinstance (by decide +kernel) (pa_cons (pv 1) (pa_cons (pe_tyV (n := "tuple") (by rfl) T.z_tuple (by decide +kernel)) pa_nil))))) (pw_or1 (pt_cmpR (op_neL0 hr) (pe_lc (own := [("one", 5)]) rfl nd (pi_tup (pv 1)) (blkOk_by (own := [("one", 5)]) (N := ["pairs", "value", "sends", "at", "item", "one"]) (sc := defScope s__law_are_items) (by decide +kernel)) (fun _ _ _ _ _ => pg_name (i := 5) nd rfl (Or.inl rfl)) (fun _ _ _ _ _ => by exact (pts_one (pt_not (pt_val (pe_callG G__law_is_item (hr.down (by decide)) rfl T.m__law_is_item T.F__law_is_item.kp T.b__law_is_item .nil pass0 (pa_cons (pv 0) (pa_cons (pv 5) pa_nil))))))) (fun _ _ _ _ _ => by exact (pv 5))) (pe_lst pa_nil) (nomark _))))) (pss_one (ps_ret pe_bl)) pss_nil)
  (pss_cons (ps_set (i := 2) nd rfl (Or.inr rfl) (pe_lst pa_nil))
  (pss_cons (ps_for HP rfl (pi_enumT (by rfl) T.z_enumerate (pa_cons (pv 1) pa_nil)) (show PG _ _ (gPair K 3 4) from pg_pair rfl (pg_name (i := 3) nd rfl (Or.inl rfl)) (pg_name (i := 4) nd rfl (Or.inl rfl))) (pss_one (ps_if (pt_cmpR (op_eqS hr) (pe_ix ix_tup (pv 4) pe_int (fun _ _ => rfl)) pe_str (nomark _)) (pss_cons (ps_if (pt_cmpR (op_neL0 hr) (pe_lc (own := [("one", 5)]) rfl nd (pi_tup (pe_ix ix_tup (pv 4) pe_int (fun _ _ => rfl))) (blkOk_by (own := [("one", 5)]) (N := ["pairs", "value", "sends", "at", "item", "one"]) (sc := defScope s__law_are_items) (by decide +kernel)) (fun _ _ _ _ _ => pg_name (i := 5) nd rfl (Or.inl rfl)) (fun _ _ _ _ _ => by exact (pts_one (PW.pt (pw_and (pt_val (pe_callG G__law_is_integer (hr.down (by decide)) rfl T.m__law_is_integer T.F__law_is_integer.kp T.b__law_is_integer .nil pass0 (pa_cons (pv 5) pa_nil))) (pw_and1 (pt_cmpR (show OpR _ _ (rIn K true) from op_notIn_seq) (pv 5) (pv 2) (by rfl))))))) (fun _ _ _ _ _ => by exact (pv 5))) (pe_lst pa_nil) (nomark _)) (pss_one (ps_ret pe_bl)) pss_nil)
  (pss_one (ps_expr (pe_bm PySem.F.plainAttrs_list PySem.F.slot_list_append PySem.F.type_list_append mt_append (pv 2) (pa_cons (pv 3) pa_nil))))) pss_nil)))
  (pss_one (ps_ret pe_bl)))))), ?_⟩
  walk_at "s"
  rcases dat_tupOr (K := K) dt with ⟨a, xs, ts, rfl, rfl, ea, ds⟩ | ⟨no, nt⟩
  · refine l_isTup ea ?_
    walk_at "s"
    refine i_f rfl ?_
    walk_at "s"
    obtain ⟨txs, ln⟩ := tx.its
    obtain ⟨kvs, ep, rows⟩ := id pk
    refine l_lcTx (tup_at ea) (ts.map fun t => !itemD b t) xs (by rw [List.length_map, ds.len]) rfl (by rw [ds.len]; omega) (fun n x bb hx hb J sj R r => ?_) (fun n x v hx _ hv J sj R r => ?_) (fun D J nD sj eD => ?_)
    · obtain ⟨u, hu, du⟩ := ds.at hx
      rw [List.getElem?_map, hu] at hb
      obtain rfl := Option.some.inj hb
      walk_at "s"
      refine ⟨d, p, kvs, b, x, u, rfl, Or.inl (sj _ _ ep), rows.same sj, raw.nd, du.same sj, txs.mem u (List.mem_of_getElem? hu), fun J2 s2 => ?_⟩
      exact l_bl (r J2 s2)
    · rw [hx] at hv
      obtain rfl := Option.some.inj hv
      exact s_var rfl (r J (Same.refl J))
    · walk_at "s"
      refine l_newL (xs := []) (by show 0 ≤ sizeLine; decide) fun D2 J2 n2 s2 e2 => ?_
      refine ⟨D, D2, _, rfl, rfl, s2 _ _ eD, e2, ?_⟩
      have e : decide ((pick xs (ts.map fun t => !itemD b t)).length = 0) = ts.all (itemD b) := by
        rw [Bool.eq_iff_iff, decide_eq_true_iff, pick_none (by rw [List.length_map, ds.len]), List.all_eq_true]
        constructor
        · intro h u hu
          simpa using h _ (List.mem_map_of_mem hu)
        · intro h y hy
          obtain ⟨u, hu, rfl⟩ := List.mem_map.mp hy
          rw [h u hu]
          rfl
      rw [e]
      refine l_bl ?_
      cases al : ts.all (itemD b) with
      | false =>
        refine i_t rfl ?_
        walk_at "s"
        have q := k J2 (sj.trans s2)
        have e6 : itemsD b (.tuple ts) = false := by
          show (ts.all (itemD b) && _) = false
          rw [al, Bool.false_and]
        rw [e6] at q
        exact q
      | true =>
        refine i_f rfl ?_
        walk_at "s"
        have it : ∀ u ∈ ts, itemD b u = true := List.all_eq_true.mp al
        have eI : itemsD b (.tuple ts) = (behs ts).all id := by
          show (ts.all (itemD b) && _) = _
          rw [al, Bool.true_and]
        refine l_newL (xs := []) (by show 0 ≤ sizeLine; decide) fun sl G1 nsl s3 esl => ?_
        have s13 := (sj.trans s2).trans s3
        walk_at "s"
        refine s_forET (s_cons (s_var rfl (s_nil ?_)))
        refine l_forET (tup_at (s13 _ _ ea)) (fun n τ G => (∃ z1 z2, τ = [some (.ref p), some (.ref a), some (.ref sl), z1, z2, none]) ∧ Keep sl G1 G ∧ G sl = some (.lst ((sendsAt ts n).map V.int)) ∧ ((behs ts).take n).all id = true) ?_ ?_ ?_ ?_
        · exact ⟨⟨none, none, rfl⟩, Keep.refl _, esl, rfl⟩
        · exact fun n τ G _ h => sqt_keep h.2.1 (ne_of (s13 _ _ ea) esl fun z => by cases z) (tup_at (s13 _ _ ea))
        · intro n x τ G G' hx h sG
          obtain ⟨⟨z1, z2, rfl⟩, kp, el, al3⟩ := h
          have nH : H sl = none := none_of_same (sj.trans s2) nsl
          have sHG : Same H G' := (same_keep s13 nH kp).trans sG
          have el' := sG _ _ el
          obtain ⟨u, hu, du⟩ := ds.at hx
          have mu := List.mem_of_getElem? hu
          have du' := du.same sHG
          have lt : n < ts.length := (List.getElem?_eq_some_iff.mp hu).1
          have bn : (behs ts)[n]? = some (behD ts n u) := by
            unfold behs
            rw [List.getElem?_mapIdx, hu]
            rfl
          have bt : ((behs ts).take (n + 1)).all id = behD ts n u := by
            rw [List.take_add_one, bn, List.all_append, al3, Bool.true_and]
            show (behD ts n u && true) = _
            rw [Bool.and_true]
          have sn := sends_succ hu
          walk_at "s"
          rcases item_cases (it u mu) with im | ⟨im, w0, s0, as, n2, rfl, h1, h2, h3, h4⟩
          · have eu := isS1_eq im
            subst eu
            obtain ⟨ax, ys, rfl, eax, dys⟩ : ∃ ax ys, x = .ref ax ∧ G' ax = some (.tup ys) ∧ Dats d G' ys [PyData.str "mark"] := by
              cases du' with
              | tup e r => exact ⟨_, _, rfl, e, r⟩
            cases dys with
            | cons dm rr =>
              cases rr
              refine l_ixT (tup_at eax) (i := 0) rfl ?_
              walk_at "s"
              refine ⟨d, _, "send", dm, rfl, ?_⟩
              refine l_bl (i_f (by decide +kernel) ?_)
              walk_at "s"
              refine ⟨⟨_, _, rfl⟩, kp.trans (Keep.of sG), ?_, bt⟩
              rw [sn, if_pos im, List.append_nil]
              exact el'
          · obtain ⟨ax, ys, rfl, eax, dys⟩ : ∃ ax ys, x = .ref ax ∧ G' ax = some (.tup ys) ∧ Dats d G' ys [w0, .str s0, .tuple as] := by
              cases du' with
              | tup e r => exact ⟨_, _, rfl, e, r⟩
            obtain ⟨xw, xc, xa, tw, tc, ta, rfl, e4, dw, dc, da⟩ := dats3 dys rfl
            injection e4 with e5 e6
            injection e6 with e6 e7
            injection e7 with e7 e8
            subst e5 e6 e7
            obtain ⟨a2, vs2, rfl, ea2, ds2⟩ : ∃ a2 vs2, xa = .ref a2 ∧ G' a2 = some (.tup vs2) ∧ Dats d G' vs2 as := by
              cases da with
              | tup e r => exact ⟨_, _, rfl, e, r⟩
            refine l_ixT (tup_at eax) (i := 0) rfl ?_
            walk_at "s"
            refine ⟨d, _, "send", dw, rfl, ?_⟩
            refine l_bl (i_t h1 ?_)
            walk_at "s"
            refine l_ixT (tup_at eax) (i := 2) (v := .ref a2) rfl ?_
            have us1 : as.length ≤ 1000 := ((txs.mem _ mu).its.1.mem (.tuple as) (List.mem_cons_of_mem _ (List.mem_cons_of_mem _ List.mem_cons_self))).its.2
            have fl : ((sendsAt ts n).map V.int).all flatV = true := by
              rw [List.all_map, List.all_eq_true]
              intro _ _
              rfl
            refine l_lcTx (tup_at ea2) (as.map fun t => match t with | .int i => !decide (i ∈ sendsAt ts n) | _ => false) vs2 (by rw [List.length_map, ds2.len]) rfl (by rw [ds2.len]; omega) (fun m y bb hy hb J3 s3 R r => ?_) (fun m y v hy _ hv J3 s3 R r => ?_) (fun D3 J3 nD3 s3 eD3 => ?_)
            · obtain ⟨u2, hu2, du2⟩ := ds2.at hy
              rw [List.getElem?_map, hu2] at hb
              obtain rfl := Option.some.inj hb
              walk_at "s"
              refine ⟨d, y, u2, rfl, du2.same s3, ?_⟩
              have dj := du2.same s3
              refine l_bl ?_
              cases du2 with
              | int i =>
                refine i_t rfl ?_
                walk_at "s"
                refine ⟨sl, (sendsAt ts n).map V.int, rfl, Or.inl (SqL.of (s3 _ _ el')), rfl, fl, ?_⟩
                rw [if_pos rfl]
                have e : inV (.int i) ((sendsAt ts n).map V.int) = decide (i ∈ sendsAt ts n) := by
                  unfold inV
                  rw [List.any_map, Bool.eq_iff_iff, List.any_eq_true, decide_eq_true_iff]
                  exact ⟨fun ⟨z, hz, q⟩ => by rw [← eq_of_beq (a := z) (b := i) q]; exact hz, fun hz => ⟨i, hz, beq_self_eq_true i⟩⟩
                rw [e]
                exact l_bl (r J3 (Same.refl J3))
              | _ =>
                refine i_f rfl ?_
                exact r J3 (Same.refl J3)
            · rw [hy] at hv
              obtain rfl := Option.some.inj hv
              exact s_var rfl (r J3 (Same.refl J3))
            · walk_at "s"
              refine l_newL (xs := []) (by show 0 ≤ sizeLine; decide) fun D4 J4 n4 s4 e4 => ?_
              refine ⟨D3, D4, _, rfl, rfl, s4 _ _ eD3, e4, ?_⟩
              have e : decide ((pick vs2 (as.map fun t => match t with | .int i => !decide (i ∈ sendsAt ts n) | _ => false)).length = 0) = behD ts n (.tuple [w0, .str s0, .tuple as]) := by
                show _ = as.all (standD ts n)
                rw [Bool.eq_iff_iff, decide_eq_true_iff, pick_none (by rw [List.length_map, ds2.len]), List.all_eq_true]
                constructor
                · intro h u hu
                  have q := h _ (List.mem_map_of_mem hu)
                  have ar := List.all_eq_true.mp h4 u hu
                  cases u with
                  | int i =>
                    rw [stand_in (of_decide_eq_true ar) (Nat.le_of_lt lt)]
                    simpa using q
                  | _ => rfl
                · intro h y hy
                  obtain ⟨u, hu, rfl⟩ := List.mem_map.mp hy
                  have q := h u hu
                  have ar := List.all_eq_true.mp h4 u hu
                  cases u with
                  | int i =>
                    rw [stand_in (of_decide_eq_true ar) (Nat.le_of_lt lt)] at q
                    show (!decide (i ∈ sendsAt ts n)) = false
                    rw [q]
                    rfl
                  | _ => rfl
              rw [e]
              have s34 := s3.trans s4
              have kp4 : Keep sl G1 J4 := (kp.trans (Keep.of sG)).trans (Keep.of s34)
              refine l_bl ?_
              cases bh : behD ts n (.tuple [w0, .str s0, .tuple as]) with
              | false =>
                refine i_t rfl ?_
                walk_at "s"
                have q := k J4 (sHG.trans s34)
                have e9 : (behs ts).all id = false := by
                  rw [List.all_eq_false]
                  exact ⟨_, List.mem_of_getElem? bn, by rw [bh]; exact Bool.false_ne_true⟩
                rw [eI, e9] at q
                exact q
              | true =>
                refine i_f rfl ?_
                walk_at "s"
                have el4 := s34 _ _ el'
                refine ⟨.ref sl, rfl, Or.inl ⟨rfl, _, SqL.of el4⟩, ?_⟩
                walk_at "s"
                refine ⟨sl, _, .int n, rfl, rfl, el4, by have := sends_len (ts := ts) (n := n); rw [List.length_map, sizeLine_eq]; omega, ?_⟩
                walk_at "s"
                refine ⟨⟨_, _, rfl⟩, kp4.set, ?_, bt.trans bh⟩
                rw [upd_same, sn, im, if_neg Bool.false_ne_true, List.map_append]
                rfl
        · intro τ G h
          obtain ⟨⟨z1, z2, rfl⟩, kp, el, al3⟩ := h
          have lb : (behs ts).length = ts.length := List.length_mapIdx ..
          rw [ds.len, ← lb, List.take_length] at al3
          walk_at "s"
          have q := k G (same_keep s13 (none_of_same (sj.trans s2) nsl) kp)
          rw [eI, al3] at q
          exact q
  · refine no _ ?_
    walk_at "s"
    refine i_t rfl ?_
    refine i_t rfl ?_
    walk_at "s"
    have q := k H (Same.refl H)
    have e6 : itemsD b t = false := by
      cases t with
      | tuple us => exact absurd rfl (nt us)
      | _ => rfl
    rw [e6] at q
    exact q
end
/-! ### sizes -/
structure Sz (n m : Nat) (t : PyData) : Prop where
  sh : t.showable = true
  dp : t.depth ≤ m
  lf : t.leavesShort 100 = true
  bk : t.bulk ≤ n
  tx : Tx t
structure Szs (n m : Nat) (ts : List PyData) : Prop where
  sh : PyData.showableAll ts = true
  dp : PyData.depthAll ts ≤ m
  lf : PyData.leavesShortAll 100 ts = true
  bk : PyData.bulkAll ts ≤ n
  tx : Txs ts
theorem Sz.up {n m n' m' : Nat} {t : PyData} (h : Sz n m t) (a : n ≤ n') (b : m ≤ m') : Sz n' m' t := ⟨h.sh, Nat.le_trans h.dp b, h.lf, Nat.le_trans h.bk a, h.tx⟩
theorem Szs.up {n m n' m' : Nat} {ts : List PyData} (h : Szs n m ts) (a : n ≤ n') (b : m ≤ m') : Szs n' m' ts := ⟨h.sh, Nat.le_trans h.dp b, h.lf, Nat.le_trans h.bk a, h.tx⟩
theorem szs_nil {m : Nat} : Szs 0 m [] := ⟨rfl, Nat.zero_le _, rfl, Nat.le_refl _, .nil⟩
theorem szs_cons {n k m : Nat} {t : PyData} {ts : List PyData} (h : Sz n m t) (hs : Szs k m ts) : Szs (n + 1 + k) m (t :: ts) := by
  refine ⟨?_, ?_, ?_, ?_, .cons h.tx hs.tx⟩
  · simp only [PyData.showableAll, h.sh, hs.sh, Bool.and_self]
  · have := h.dp
    have := hs.dp
    simp only [PyData.depthAll]
    omega
  · simp only [PyData.leavesShortAll, h.lf, hs.lf, Bool.and_self]
  · have := h.bk
    have := hs.bk
    simp only [PyData.bulkAll]
    omega
theorem szs_head {n m : Nat} {t : PyData} {ts : List PyData} (h : Szs n m (t :: ts)) : ∃ a b, Sz a m t ∧ Szs b m ts ∧ a + 1 + b ≤ n := by
  obtain ⟨h1, h2, h3, h4, h5⟩ := h
  simp only [PyData.showableAll, Bool.and_eq_true] at h1
  simp only [PyData.depthAll] at h2
  simp only [PyData.leavesShortAll, Bool.and_eq_true] at h3
  simp only [PyData.bulkAll] at h4
  cases h5 with
  | cons x1 x2 => exact ⟨t.bulk, PyData.bulkAll ts, ⟨h1.1, by omega, h3.1, Nat.le_refl _, x1⟩, ⟨h1.2, by omega, h3.2, Nat.le_refl _, x2⟩, h4⟩
theorem szs_len {n m : Nat} : ∀ {ts : List PyData}, Szs n m ts → ts.length ≤ n := by
  intro ts
  induction ts generalizing n with
  | nil => exact fun _ => Nat.zero_le _
  | cons t ts ih =>
    intro h
    obtain ⟨a, b, _, h2, h3⟩ := szs_head h
    have := ih h2
    rw [List.length_cons]
    omega
theorem szs_app {n k m : Nat} {us : List PyData} (hu : Szs k m us) : ∀ {ts : List PyData}, Szs n m ts → Szs (n + k) m (ts ++ us) := by
  intro ts
  induction ts generalizing n with
  | nil => exact fun _ => hu.up (Nat.le_add_left _ _) (Nat.le_refl _)
  | cons t ts ih =>
    intro h
    obtain ⟨a, b, h1, h2, h3⟩ := szs_head h
    exact (szs_cons h1 (ih h2)).up (by omega) (Nat.le_refl _)
theorem szs_take {n m : Nat} : ∀ (i : Nat) {ts : List PyData}, Szs n m ts → Szs n m (ts.take i)
  | 0, ts, h => by
    rw [List.take_zero]
    exact szs_nil.up (Nat.zero_le _) (Nat.le_refl _)
  | i + 1, [], h => h
  | i + 1, t :: ts, h => by
    obtain ⟨a, b, h1, h2, h3⟩ := szs_head h
    exact (szs_cons h1 (szs_take i h2)).up (by omega) (Nat.le_refl _)
theorem szs_drop {n m : Nat} : ∀ (i : Nat) {ts : List PyData}, Szs n m ts → Szs n m (ts.drop i)
  | 0, ts, h => h
  | i + 1, [], h => h
  | i + 1, t :: ts, h => by
    obtain ⟨a, b, h1, h2, h3⟩ := szs_head h
    exact (szs_drop i h2).up (by omega) (Nat.le_refl _)
theorem szs_mem {n m : Nat} : ∀ {ts : List PyData}, Szs n m ts → ∀ t ∈ ts, Sz n m t
  | [], _, _, h => nomatch h
  | t :: ts, h, u, hu => by
    obtain ⟨a, b, h1, h2, h3⟩ := szs_head h
    rcases List.mem_cons.mp hu with e | hu
    · exact e ▸ h1.up (by omega) (Nat.le_refl _)
    · exact (szs_mem h2 u hu).up (by omega) (Nat.le_refl _)
theorem szs_perm {ts us : List PyData} (p : us.Perm ts) : ∀ {n m : Nat}, Szs n m ts → Szs n m us := by
  induction p with
  | nil => exact fun h => h
  | cons x _ ih =>
    intro n m h
    obtain ⟨a, b, h1, h2, h3⟩ := szs_head h
    exact (szs_cons h1 (ih h2)).up (by omega) (Nat.le_refl _)
  | swap x y l =>
    intro n m h
    obtain ⟨a, b, h1, h2, h3⟩ := szs_head h
    obtain ⟨a2, b2, h4, h5, h6⟩ := szs_head h2
    exact (szs_cons h4 (szs_cons h1 h5)).up (by omega) (Nat.le_refl _)
  | trans _ _ ih1 ih2 => exact fun h => ih1 (ih2 h)
theorem szs_all {k m : Nat} : ∀ {ts : List PyData}, (∀ t ∈ ts, Sz k m t) → Szs (ts.length * (k + 1)) m ts
  | [], _ => szs_nil.up (Nat.zero_le _) (Nat.le_refl _)
  | t :: ts, h => (szs_cons (h t List.mem_cons_self) (szs_all fun u hu => h u (List.mem_cons_of_mem _ hu))).up (by rw [List.length_cons, Nat.succ_mul]; omega) (Nat.le_refl _)
theorem sz_tup {n m : Nat} {ts : List PyData} (h : Szs n m ts) (l : n ≤ 1000) : Sz n (m + 1) (.tuple ts) :=
  ⟨by simpa only [PyData.showable] using h.sh, by have := h.dp; simp only [PyData.depth]; omega, by simpa only [PyData.leavesShort] using h.lf, by simpa only [PyData.bulk] using h.bk, .tup h.tx (Nat.le_trans (szs_len h) l)⟩
theorem sz_lst {n m : Nat} {ts : List PyData} (h : Szs n m ts) (l : n ≤ 1000) : Sz n (m + 1) (.list ts) :=
  ⟨by simpa only [PyData.showable] using h.sh, by have := h.dp; simp only [PyData.depth]; omega, by simpa only [PyData.leavesShort] using h.lf, by simpa only [PyData.bulk] using h.bk, .lst h.tx (Nat.le_trans (szs_len h) l)⟩
theorem sz_its {n m : Nat} {ts : List PyData} (h : Sz n (m + 1) (.tuple ts)) : Szs n m ts :=
  ⟨by simpa only [PyData.showable] using h.sh, by have := h.dp; simp only [PyData.depth] at this; omega, by simpa only [PyData.leavesShort] using h.lf, by simpa only [PyData.bulk] using h.bk, h.tx.its.1⟩
theorem sz_non {m : Nat} : Sz 0 m .none := ⟨rfl, Nat.zero_le _, rfl, Nat.le_refl _, .non⟩
theorem sz_bl {m : Nat} (b : Bool) : Sz 0 m (.bool b) := ⟨rfl, Nat.zero_le _, rfl, Nat.le_refl _, .bl b⟩
theorem sz_int {m : Nat} {i : Int} (h : i.natAbs.log2 < 99) : Sz 0 m (.int i) := by
  have e := int_text_length_le (k := 99) (by decide) h
  refine ⟨decide_eq_true (show i.natAbs.log2 < _ by omega), Nat.zero_le _, ?_, Nat.le_refl _, .int i⟩
  refine decide_eq_true ?_
  show (Str.ofString (toString i)).length ≤ 100
  rw [PySem.ofString_length]
  omega
theorem sz_str {n m : Nat} {s : Str} (h : Txt1 s) (l : s.length ≤ n) : Sz n m (.str s) := by
  refine ⟨rfl, Nat.zero_le _, ?_, l, .str h⟩
  show s.cps.toList.all _ = true
  rw [List.all_eq_true]
  intro c hc
  exact decide_eq_true (Nat.lt_trans (h.2 c hc) (by decide))
theorem sz_name {m : Nat} {s : Str} (h : nameB s = true) : Sz 8 m (.str s) := by
  refine sz_str (name_txt h) ?_
  unfold nameB at h
  simp only [Bool.and_eq_true, decide_eq_true_eq] at h
  exact h.1.2
/-- a dict with short ints as keys -/
theorem sz_kv {m : Nat} : ∀ {ks : List Key} {ts : List PyData} {n : Nat}, (∀ k ∈ ks, Sz 1 m (keyD k)) → Szs n m ts → PyData.showableKv ((ks.map keyD).zip ts) = true ∧ PyData.depthKv ((ks.map keyD).zip ts) ≤ m ∧ PyData.leavesShortKv 100 ((ks.map keyD).zip ts) = true ∧ PyData.bulkKv ((ks.map keyD).zip ts) ≤ n + 2 * ts.length ∧ Txs (((ks.map keyD).zip ts).map (·.2))
  | [], _, _, _, _ => ⟨rfl, Nat.zero_le _, rfl, Nat.zero_le _, .nil⟩
  | _ :: _, [], _, _, _ => ⟨rfl, Nat.zero_le _, rfl, Nat.zero_le _, .nil⟩
  | k :: ks, t :: ts, n, hk, h => by
    obtain ⟨a, b, h1, h2, h3⟩ := szs_head h
    obtain ⟨g1, g2, g3, g4, g5⟩ := sz_kv (ks := ks) (fun x hx => hk x (List.mem_cons_of_mem _ hx)) h2
    have kd := hk k List.mem_cons_self
    have e1 := kd.dp
    have e2 := h1.dp
    have e3 := kd.bk
    have e4 := h1.bk
    refine ⟨?_, ?_, ?_, ?_, .cons h1.tx g5⟩
    · simp only [List.map_cons, List.zip_cons_cons, PyData.showableKv, kd.sh, h1.sh, g1, Bool.and_self]
    · simp only [List.map_cons, List.zip_cons_cons, PyData.depthKv]
      omega
    · simp only [List.map_cons, List.zip_cons_cons, PyData.leavesShortKv, kd.lf, h1.lf, g3, Bool.and_self]
    · simp only [List.map_cons, List.zip_cons_cons, PyData.bulkKv, List.length_cons]
      omega
theorem sz_dct {n m : Nat} {ks : List Key} {ts : List PyData} (hk : ∀ k ∈ ks, Sz 1 m (keyD k)) (h : Szs n m ts) : Sz (3 * n) (m + 1) (.dict ((ks.map keyD).zip ts)) := by
  obtain ⟨g1, g2, g3, g4, g5⟩ := sz_kv hk h
  have l := szs_len h
  exact ⟨by simpa only [PyData.showable] using g1, by simp only [PyData.depth]; omega, by simpa only [PyData.leavesShort] using g3, by simp only [PyData.bulk]; omega, .dct g5⟩
theorem szs_repr {n m : Nat} {ts : List PyData} (h : Szs n m ts) (l : n ≤ 10000) : (PyData.list ts).shown.length ≤ sizeLine := by
  have e := PyData.shown_le_bulk 100 (by decide) (.list ts) (by simpa only [PyData.leavesShort] using h.lf)
  have b : (PyData.list ts).bulk ≤ 10000 := by
    have := h.bk
    simp only [PyData.bulk]
    omega
  rw [sizeLine_eq]
  omega
/-- a value that is told, and of moderate size -/
def PrU (d : Addr) (n m : Nat) : Hp → V → Prop := fun G v => ∃ t, Dat d G v t ∧ Sz n m t
theorem pru_same {d : Addr} {n m : Nat} (G G' : Hp) (v : V) (s : Same G G') (h : PrU d n m G v) : PrU d n m G' v := by
  obtain ⟨t, a, b⟩ := h
  exact ⟨t, a.same s, b⟩
theorem pru_ex {d : Addr} {n m : Nat} {G G' : Hp} {v : V} (hd : DiceAt G d) (s : Ex d G G') (h : PrU d n m G v) : PrU d n m G' v := by
  obtain ⟨t, a, b⟩ := h
  exact ⟨t, a.ex hd s, b⟩
/-! ### odd values -/
instance {s : Str} : Decidable (Txt1 s) := inferInstanceAs (Decidable (s.length ≤ 400 ∧ ∀ c ∈ s.cps.toList, c < 128))
section
variable {H0 : Hp} {σ : L2.St} {i j : Int} {s : Str} {b : Bool} {n m : Nat} {d : Addr}
theorem ud_str (ok : Txt1 s ∧ s.length ≤ n) : ToP H0 (PrU d n m) (tC (.str s)) σ := toP_c fun G => ⟨_, .str s, sz_str ok.1 ok.2⟩
theorem sz_intC (ok : (PyData.int i).showable = true ∧ (PyData.int i).leavesShort 100 = true) : Sz n m (.int i) := ⟨ok.1, Nat.zero_le _, ok.2, Nat.zero_le _, .int i⟩
theorem ud_int (ok : (PyData.int i).showable = true ∧ (PyData.int i).leavesShort 100 = true) : ToP H0 (PrU d n m) (tC (.int i)) σ := toP_c fun G => ⟨_, .int i, sz_intC ok⟩
theorem ud_bl : ToP H0 (PrU d n m) (tC (.bl b)) σ := toP_c fun G => ⟨_, .bl b, (sz_bl b).up (Nat.zero_le _) (Nat.le_refl _)⟩
theorem ud_non : ToP H0 (PrU d n m) (tC .non) σ := toP_c fun G => ⟨_, .non, sz_non.up (Nat.zero_le _) (Nat.le_refl _)⟩
theorem ud_neg (ok : (PyData.int (-i)).showable = true ∧ (PyData.int (-i)).leavesShort 100 = true) : ToP H0 (PrU d n m) (tUn (rU fun i => .int (-i)) (tC (.int i))) σ := fun H _ Q k => ⟨i, rfl, k _ H (Same.refl H) ⟨_, .int _, sz_intC ok⟩⟩
theorem ud_pow (h : CPowW i j) (ok : (PyData.int (i ^ j.toNat)).showable = true ∧ (PyData.int (i ^ j.toNat)).leavesShort 100 = true) : ToP H0 (PrU d n m) (tOp (rI CPowW fun i j => .int (i ^ j.toNat)) (tC (.int i)) (tC (.int j))) σ := fun H _ Q k => ⟨i, j, rfl, rfl, h, k _ H (Same.refl H) ⟨_, .int _, sz_intC ok⟩⟩
theorem ud_tup0 : ToP H0 (PrU d n (m + 1)) (tTup tNil) σ := fun H s0 Q k => l_newT (xs := []) (by show 0 ≤ sizeLine; decide) fun p G' np s' e => k _ G' s' ⟨_, .tup e .nil, (sz_tup (m := m) szs_nil (by omega)).up (Nat.zero_le _) (Nat.le_refl _)⟩
theorem ud_tupS (ok : Txt1 s ∧ s.length + 1 ≤ n ∧ n ≤ 1000) : ToP H0 (PrU d n (m + 1)) (tTup (tCons (tC (.str s)) tNil)) σ := fun H s0 Q k => l_newT (xs := [.str s]) (by show 1 ≤ sizeLine; decide) fun p G' np s' e => k _ G' s' ⟨_, .tup e (.cons (.str s) .nil), (sz_tup (szs_cons (sz_str (m := m) ok.1 (Nat.le_refl _)) szs_nil) (by omega)).up (by omega) (Nat.le_refl _)⟩
theorem ud_tupN (h : 1 ≤ n) : ToP H0 (PrU d n (m + 1)) (tTup (tCons (tC .non) tNil)) σ := fun H s0 Q k => l_newT (xs := [.non]) (by show 1 ≤ sizeLine; decide) fun p G' np s' e => k _ G' s' ⟨_, .tup e (.cons .non .nil), (sz_tup (szs_cons (sz_non (m := m)) szs_nil) (by omega)).up (by omega) (Nat.le_refl _)⟩
theorem ud_tupT (h : 1 ≤ n) : ToP H0 (PrU d n (m + 2)) (tTup (tCons (tTup tNil) tNil)) σ := fun H s0 Q k => s_tup (s_cons (s_tup (s_nil (l_newT (xs := []) (by show 0 ≤ sizeLine; decide) fun q G0 nq sq eq => s_nil (l_newT (xs := [.ref q]) (by show 1 ≤ sizeLine; decide) fun p G' np s' e =>
  k _ G' (sq.trans s') ⟨_, .tup e (.cons (.tup (s' _ _ eq) .nil) .nil), (sz_tup (szs_cons ((sz_tup (m := 0) szs_nil (by omega)).up (Nat.le_refl _) (show 0 + 1 ≤ m + 1 by omega)) szs_nil) (by omega)).up (by omega) (Nat.le_refl _)⟩)))))
theorem new_ne {p : Addr} {H : Hp} (hd : DiceAt H0 d) (s0 : Same H0 H) (np : H p = none) : p ≠ d := fun e => ((hd.same s0).ne np) e.symm
theorem ud_lst0 (hd : DiceAt H0 d) : ToP H0 (PrU d n (m + 1)) (tLst tNil) σ := fun H s0 Q k => l_newL (xs := []) (by show 0 ≤ sizeLine; decide) fun p G' np s' e => k _ G' s' ⟨_, .lst e (new_ne hd s0 np) .nil, (sz_lst (m := m) szs_nil (by omega)).up (Nat.zero_le _) (Nat.le_refl _)⟩
theorem ud_lstS (hd : DiceAt H0 d) (ok : Txt1 s ∧ s.length + 1 ≤ n ∧ n ≤ 1000) : ToP H0 (PrU d n (m + 1)) (tLst (tCons (tC (.str s)) tNil)) σ := fun H s0 Q k => l_newL (xs := [.str s]) (by show 1 ≤ sizeLine; decide) fun p G' np s' e => k _ G' s' ⟨_, .lst e (new_ne hd s0 np) (.cons (.str s) .nil), (sz_lst (szs_cons (sz_str (m := m) ok.1 (Nat.le_refl _)) szs_nil) (by omega)).up (by omega) (Nat.le_refl _)⟩
theorem ud_dnew : ToP H0 (PrU d n (m + 1)) tDNewK σ := fun H s0 Q k p np => k _ _ (same0 np) ⟨_, .dct (kvs := []) upd_same .nil, (sz_dct (ks := []) (fun _ h => nomatch h) (szs_nil (m := m))).up (by omega) (Nat.le_refl _)⟩
theorem ud_disp (h : 20 ≤ n) : ToP H0 (PrU d n (m + 1)) (tDisp [(tC (.str "x"), tC (.int 1))]) σ := fun H s0 Q k p np =>
  ⟨upd_same, [(Sum.inr "x", .int 1)], rfl, (by show 1 ≤ 15; decide), k _ _ (Same.setNew (Same.upd0 np) np) ⟨_, .dct (kvs := [(Sum.inr "x", .int 1)]) upd_same (.cons (.int 1) .nil), (sz_dct (ks := [Sum.inr "x"]) (n := 1) (m := m) (fun kk hk => by
    rw [List.mem_singleton.mp hk]
    exact sz_str (by decide +kernel) (by decide)) (szs_cons (sz_intC (n := 0) (i := 1) (by decide +kernel)) szs_nil)).up (by omega) (Nat.le_refl _)⟩⟩
end
local macro_rules | `(tactic| walk_at "ud1") => `(tactic| first
  | (with_reducible exact ud_bl) | (with_reducible exact ud_non) | ((with_reducible refine ud_int ?h); (case h => decide +kernel)) | ((with_reducible refine ud_str ?h); (case h => decide +kernel))
  | ((with_reducible refine ud_neg ?h); (case h => decide +kernel)) | ((with_reducible refine ud_pow ?h ?k); (case h => decide +kernel); (case k => decide +kernel)) | (with_reducible exact ud_dnew) | (with_reducible exact ud_disp (by decide))
  | (with_reducible exact ud_tup0) | (with_reducible exact ud_tupN (by decide)) | (with_reducible exact ud_tupT (by decide)) | (with_reducible exact ud_lst0 (by assumption)) | ((with_reducible refine ud_tupS ?h); (case h => decide +kernel)) | ((with_reducible refine ud_lstS (by assumption) ?h); (case h => decide +kernel)))
local macro_rules | `(tactic| walk_at "ud") => `(tactic| first
  | (exact allA_nil)
  | ((refine' allA_cons pru_same ?h1 ?h2); (case h1 => walk_at "ud1"); (case h2 => walk_at "ud")))
section
variable {P : Program} {w : World} {K : PySem.W.Frag} {mg : Str → Option Value} {base : Heap}
def sp__law_odd : Sp := fun vs H Q _ => ∃ d : Addr, vs = [.ref d] ∧ DiceAt H d ∧ ∀ x G, Dc d H G → PrU d 20 4 G x → Q x G
theorem ok__law_odd (T : Txt K mg) : FnG P w K mg base CX0 3 T.a__law_odd T.d__law_odd ["dice"] sp__law_odd := by
  have G__law_one_of : FnG P w K mg base CX0 2 T.a__law_one_of T.d__law_one_of ["dice", "items"] (sp__law_one_of K) := ok__law_one_of T
  refine okG T.F__law_odd sc__law_odd (fun vs H Q E h => ?_) (fun cdv A fs s H vs Q E hr h => ?_)
  · obtain ⟨d, rfl, _⟩ := h
    rfl
  obtain ⟨d, rfl, hd, k⟩ := h
  have nd := sc__law_odd.nd
  refine ⟨_, ((pss_cons (ps_set (i := 1) nd rfl (Or.inl rfl) (pe_lst (pa_cons pe_non (pa_cons pe_bl (pa_cons pe_bl (pa_cons pe_int (pa_cons pe_int (pa_cons (pe_un un_neg pe_int) (pa_cons pe_int (pa_cons pe_int (pa_cons (pe_op op_powW pe_int pe_int) (pa_cons pe_str (pa_cons pe_str (pa_cons pe_str (pa_cons pe_str (pa_cons pe_str (pa_cons pe_str (pa_cons pe_str pa_nil))))))))))))))))))
  (pss_cons (ps_set (i := 1) nd rfl (Or.inl rfl) (pe_op op_cat (pv 1) (pe_lst (pa_cons pe_str (pa_cons pe_str (pa_cons pe_str (pa_cons pe_str (pa_cons pe_str (pa_cons (pe_tup pa_nil) (pa_cons (pe_lst pa_nil) (pa_cons pe_dnewK (pa_cons (pe_tup (pa_cons pe_str pa_nil)) (pa_cons (pe_lst (pa_cons pe_str pa_nil)) (pa_cons (pe_disp (pps_cons pe_str pe_int pps_nil) (by rfl) (by rfl) (fun z => by cases z) (by decide)) (pa_cons (pe_tup (pa_cons (pe_tup pa_nil) pa_nil)) (pa_cons (pe_tup (pa_cons pe_non pa_nil)) pa_nil))))))))))))))))
  (pss_cons (ps_set (i := 1) nd rfl (Or.inl rfl) (pe_op op_cat (pv 1) (pe_lst (pa_cons (pe_tup (pa_cons pe_str pa_nil)) (pa_cons (pe_tup (pa_cons pe_str pa_nil)) pa_nil)))))
  (pss_one (ps_ret (pe_callG G__law_one_of (hr.down (by decide)) rfl T.m__law_one_of T.F__law_one_of.kp T.b__law_one_of .nil pass0 (pa_cons (pv 0) (pa_cons (pv 1) pa_nil))))))))), ?_⟩
  iterate 3 walk_at "s1"
  refine use_all (n := 16) (Pr := PrU d 20 4) (Same.refl H) ?_ fun xs1 G1 s1 len1 all1 => l_newL (by rw [len1, sizeLine_eq]; decide) fun p1 H1 n1 t1 e1 => ?_
  · walk_at "ud"
  iterate 6 walk_at "s1"
  have hd1 := hd.same (s1.trans t1)
  refine use_all (n := 13) (Pr := PrU d 20 4) (s1.trans t1) ?_ fun xs2 G2 s2 len2 all2 => l_newL (by rw [len2, sizeLine_eq]; decide) fun p2 H2 n2 t2 e2 => ?_
  · walk_at "ud"
  refine l_cat ((s2.trans t2) _ _ e1) e2 (by rw [len1, len2, sizeLine_eq]; decide) fun p3 H3 n3 t3 e3 => ?_
  iterate 6 walk_at "s1"
  refine use_all (n := 2) (Pr := PrU d 20 4) (((s1.trans t1).trans (s2.trans t2)).trans t3) ?_ fun xs4 G4 s4 len4 all4 => l_newL (by rw [len4, sizeLine_eq]; decide) fun p4 H4 n4 t4 e4 => ?_
  · walk_at "ud"
  refine l_cat ((s4.trans t4) _ _ e3) e4 (by rw [List.length_append, len1, len2, len4, sizeLine_eq]; decide) fun p5 H5 n5 t5 e5 => ?_
  walk_at "s"
  have s5 := ((((s1.trans t1).trans (s2.trans t2)).trans t3).trans (s4.trans t4)).trans t5
  have hd5 := hd.same s5
  have ne5 : p5 ≠ d := fun e => (hd.same (((((s1.trans t1).trans (s2.trans t2)).trans t3).trans (s4.trans t4)))).ne n5 e.symm
  refine ⟨d, p5, (xs1 ++ xs2) ++ xs4, rfl, hd5, SqL.of e5, ne5, ?_, ?_, fun x H' hx dc => k x H' ((Dc.refl hd).same s5 |>.trans dc) ?_⟩
  · rw [List.length_append, List.length_append, len1]
    omega
  · rw [List.length_append, List.length_append, len1, len2, len4]
    decide
  · have o5 : PrU d 20 4 H5 x := by
      rcases List.mem_append.mp hx with h | h
      · rcases List.mem_append.mp h with h | h
        · exact pru_same _ _ _ (((t1.trans (s2.trans t2)).trans t3).trans ((s4.trans t4).trans t5)) (all1 x h)
        · exact pru_same _ _ _ ((t2.trans t3).trans ((s4.trans t4).trans t5)) (all2 x h)
      · exact pru_same _ _ _ (t4.trans t5) (all4 x h)
    exact pru_ex hd5 (Ex.dc dc) o5
end
/-! ### what stays while dice are thrown and tables grow -/
section
variable {K : PySem.W.Frag} {mg : Str → Option Value} {T : Txt K mg} {H G J : Hp} {a d p q : Addr} {b : PB} {xs : List V}
theorem pairV_ex {v : V} {t : Nat} {as : List Str} (h : DiceAt H d) (x : Ex d H G) (r : PairV H v t as) : PairV G v t as := by
  obtain ⟨pr, an, e, h1, h2⟩ := r
  exact ⟨pr, an, e, x.at h h1 (fun _ z => by cases z) (fun _ z => by cases z), x.at h h2 (fun _ z => by cases z) (fun _ z => by cases z)⟩
theorem outV_ex {v : V} {as : List Str} (h : DiceAt H d) (x : Ex d H G) (r : OutV H v as) : OutV G v as := by
  obtain ⟨t, e, h1⟩ := r
  exact ⟨t, e, x.at h h1 (fun _ z => by cases z) (fun _ z => by cases z)⟩
theorem BookAt.ex (h : DiceAt H d) (x : Ex d H G) (r : BookAt T H a b) : BookAt T G a b := by
  obtain ⟨dx, p, o, kvs, ows, h1, h2, h3, h4, h5, h6⟩ := r
  exact ⟨dx, p, o, kvs, ows, x.at h h1 (fun _ z => by cases z) (fun _ z => by cases z), x.at h h2 (fun _ z => by cases z) (fun _ z => by cases z), x.at h h3 (fun _ z => by cases z) (fun _ z => by cases z),
    Paired.mono (fun _ _ a => ⟨a.1, pairV_ex h x a.2⟩) h4, Paired.mono (fun _ _ a => ⟨a.1, outV_ex h x a.2⟩) h5, h6⟩
theorem pairs_ex (h : DiceAt H d) (x : Ex d H G) (r : PairsAt H p b) : PairsAt G p b := by
  obtain ⟨kvs, h1, h2⟩ := r
  exact ⟨kvs, x.at h h1 (fun _ z => by cases z) (fun _ z => by cases z), Paired.mono (fun _ _ a => ⟨a.1, pairV_ex h x a.2⟩) h2⟩
theorem sql_ex (n : p ≠ d) (x : Ex d H G) (h : SqL K H p xs) : SqL K G p xs := by
  rcases h with h | h
  · rcases h with h | ⟨o, h⟩
    · exact Or.inl (Or.inl (x.2 _ _ n h fun _ z => by cases z))
    · exact Or.inl (Or.inr ⟨o, x.2 _ _ n h fun _ z => by cases z⟩)
  · exact Or.inr h
theorem tabs_dc {Tb : List (Addr × Str)} (h : DiceAt H d) (k : Keep d H G) (t : LamX.Tabs Tb H) : LamX.Tabs Tb G := fun q hq => by
  obtain ⟨ps, h1, h2, h3⟩ := t q hq
  have ne : ∀ {b : Addr} {u : HO}, H b = some u → (∀ ys, u ≠ .lst ys) → G b = some u := fun {b u} e n => k b u (fun z => by
    obtain ⟨_, _, _, q⟩ := h
    rw [z, q] at e
    exact n _ (Option.some.inj e).symm) e
  refine ⟨ps, ne h1 (fun _ z => by cases z), h2, fun pos cv hc => ?_⟩
  obtain ⟨c, e1, e2⟩ := h3 pos cv hc
  exact ⟨c, e1, ne e2 fun _ z => by
    unfold LamX.CodeO at z
    cases z⟩
theorem tabs_dk {Tb : List (Addr × Str)} {kvs lvs : List (Key × V)} (t : LamX.Tabs Tb H) (e : H p = some (.dK kvs)) : LamX.Tabs Tb (upd H p (.dK lvs)) := tabs_upd t e (fun _ z => by cases z) (fun c q z => by
  unfold LamX.CodeO at z
  cases z)
end
/-! ### drawn items -/
section
variable {P : Program} {w : World} {K : PySem.W.Frag} {mg : Str → Option Value} {base : Heap}
theorem isS1_mark : isS1 (.tuple [.str "mark"]) "mark" = true := by decide +kernel
theorem mark_ok {b : PB} : itemD b (.tuple [.str "mark"]) = true := by
  rw [item_len (by decide)]
  exact isS1_mark
def scalV : PyData → V
  | .str s => .str s
  | .int i => .int i
  | _ => .non
theorem scal_dat {d : Addr} {G : Hp} {u : PyData} (h : argD u = true) : Dat d G (scalV u) u := by
  cases u with
  | none => exact .non
  | str s => exact .str s
  | int i => exact .int i
  | _ => cases h
theorem scal_dats {d : Addr} {G : Hp} : ∀ {as : List PyData}, as.all argD = true → Dats d G (as.map scalV) as
  | [], _ => .nil
  | a :: as, h => by
    rw [List.all_cons, Bool.and_eq_true] at h
    exact .cons (scal_dat h.1) (scal_dats h.2)
/-- the items' arguments name only these places -/
def within (ss : List Int) (t : PyData) : Prop := ∀ x y as, t = .tuple [x, y, .tuple as] → ∀ i, PyData.int i ∈ as → i ∈ ss
def sp__law_item (K : PySem.W.Frag) : Sp := fun vs H Q _ => ∃ (d p wl sl : Addr) (b : PB) (ws : List Str) (ss : List Int), vs = [.ref d, .ref p, .ref wl, .ref sl] ∧ DiceAt H d ∧ PairsAt H p b ∧ RawB b ∧ H wl = some (.lst (ws.map V.str)) ∧ wl ≠ d ∧ (∀ s ∈ ws, nameB s = true) ∧ 0 < ws.length ∧ ws.length ≤ 20 ∧
  H sl = some (.lst (ss.map V.int)) ∧ sl ≠ d ∧ (∀ i ∈ ss, 0 ≤ i ∧ i < 50) ∧ ss.length ≤ 20 ∧ ∀ x t G, Dc d H G → Dat d G x t → itemD b t = true → Sz 33 2 t → within ss t → Q x G
theorem ok__law_item (T : Txt K mg) : FnG P w K mg base CX0 4 T.a__law_item T.d__law_item ["dice", "pairs", "words", "sends"] (sp__law_item K) := by
  have G__law_roll : FnG P w K mg base CX0 1 T.a__law_roll T.d__law_roll ["dice", "total"] sp__law_roll := ok__law_roll T
  have G__law_one_of : FnG P w K mg base CX0 2 T.a__law_one_of T.d__law_one_of ["dice", "items"] (sp__law_one_of K) := ok__law_one_of T
  have HP := @PassesOwn.never
  refine okG T.F__law_item sc__law_item (fun vs H Q E h => ?_) (fun cdv A fs s H vs Q E hr h => ?_)
  · obtain ⟨d, p, wl, sl, b, ws, ss, rfl, _⟩ := h
    rfl
  obtain ⟨d, p, wl, sl, b, ws, ss, rfl, hd, pk, raw, ew, nw, hw, w0, w1, es, ns, hs, s1, k⟩ := h
  have nd := sc__law_item.nd
  refine ⟨_, ((pss_cons (ps_if (pt_cmpR op_eq (pe_callG G__law_roll (hr.down (by decide)) rfl T.m__law_roll T.F__law_roll.kp T.b__law_roll .nil pass0 (pa_cons (pv 0) (pa_cons pe_int pa_nil))) pe_int (nomark _)) (pss_one (ps_ret (pe_tup (pa_cons pe_str pa_nil)))) pss_nil)
  (pss_cons (ps_par (i := 4) (j := 5) rfl nd rfl rfl (by decide) rfl rfl (pa_cons (pe_callG G__law_one_of (hr.down (by decide)) rfl T.m__law_one_of T.F__law_one_of.kp T.b__law_one_of .nil pass0 (pa_cons (pv 0) (pa_cons (pe_callTy (c_listD rfl) (by rfl) T.z_list (by decide +kernel) (pa_cons (pv 1) pa_nil)) pa_nil))) (pa_cons (pe_lst pa_nil) pa_nil)) (by rfl))
  (pss_cons (ps_for HP rfl (pi_range1 rfl T.z_range (pa_cons (pe_ix ix_tup (pe_dget hr.hu (pv 1) (pv 4) (fun _ _ => rfl)) pe_int (fun _ _ => rfl)) pa_nil)) (pg_name (i := 6) nd rfl (Or.inl rfl)) (Evl.pss_cut (ps_set (i := 7) nd rfl (Or.inl rfl) (pe_ifExp (pt_cmpR (op_neL0 hr) (pv 3) (pe_lst pa_nil) (nomark _)) (pe_callG G__law_roll (hr.down (by decide)) rfl T.m__law_roll T.F__law_roll.kp T.b__law_roll .nil pass0 (pa_cons (pv 0) (pa_cons pe_int pa_nil))) (pe_callG G__law_roll (hr.down (by decide)) rfl T.m__law_roll T.F__law_roll.kp T.b__law_roll .nil pass0 (pa_cons (pv 0) (pa_cons pe_int pa_nil)))))
  (pss_one (ps_expr (pe_bm PySem.F.plainAttrs_list PySem.F.slot_list_append PySem.F.type_list_append mt_append (pv 5) (pa_cons (pe_ix ix_list (pe_lst (pa_cons pe_non (pa_cons (pe_callG G__law_one_of (hr.down (by decide)) rfl T.m__law_one_of T.F__law_one_of.kp T.b__law_one_of .nil pass0 (pa_cons (pv 0) (pa_cons (pv 2) pa_nil))) (pa_cons (pe_callG G__law_one_of (hr.down (by decide)) rfl T.m__law_one_of T.F__law_one_of.kp T.b__law_one_of .nil pass0 (pa_cons (pv 0) (pa_cons (pe_orT (pv 3) (pe_one (pe_lst (pa_cons pe_non pa_nil)))) pa_nil))) pa_nil)))) (pv 7) (fun _ _ => rfl)) pa_nil))))))
  (pss_one (ps_ret (pe_tup (pa_cons pe_str (pa_cons (pv 4) (pa_cons (pe_callTy c_tuple (by rfl) T.z_tuple (by decide +kernel) (pa_cons (pv 5) pa_nil)) pa_nil)))))))))), ?_⟩
  walk_at "s"
  refine ⟨d, 4, rfl, hd, by decide, by decide, fun r H1 h0 h1 dc1 => ?_⟩
  walk_at "s"
  refine i_dec (fun z => ?_) (fun z => ?_)
  · walk_at "s"
    refine l_newT (xs := [V.str "mark"]) (by show 1 ≤ sizeLine; decide) fun l G nl sg el => ?_
    refine k _ _ G (dc1.trans ((Dc.refl dc1.dice).same sg)) (.tup el (.cons (.str "mark") .nil)) mark_ok ((sz_tup (m := 0) (szs_cons (sz_str (m := 0) (by decide +kernel) (Nat.le_refl _)) szs_nil) (by decide +kernel)).up (by decide +kernel) (by decide)) ?_
    intro x y as e
    cases e
  · walk_at "s"
    have pk1 := pairs_ex hd (Ex.dc dc1) pk
    obtain ⟨kvs, ep1, rows1⟩ := id pk1
    refine l_listK (Or.inl ep1) fun q G2 nq s2 eq => ?_
    walk_at "s"
    have nqd : q ≠ d := fun e => (dc1.dice.ne nq) e.symm
    have ek : (kvs.map fun p => kV p.1) = (b.map (·.1)).map V.str := by
      have e := congrArg (List.map kV) rows1.keys
      rw [List.map_map, List.map_map] at e
      exact e
    rw [ek] at eq
    have dc2 : Dc d H G2 := dc1.same s2
    have n1 := raw.n1
    have n6 := raw.n6
    refine ⟨d, q, _, rfl, dc2.dice, SqL.of eq, nqd, by rw [List.length_map, List.length_map]; omega, by rw [List.length_map, List.length_map]; omega, fun x G3 hx dc3 => ?_⟩
    obtain ⟨cmd, hc, rfl⟩ := List.mem_map.mp hx
    obtain ⟨e, he, rfl⟩ := List.mem_map.mp hc
    have gp := raw.pr e he
    walk_at "s"
    refine l_newL (xs := []) (by show 0 ≤ sizeLine; decide) fun fl G4 nfl s4 efl => ?_
    walk_at "s"
    have dc4 : Dc d H G4 := (dc2.trans dc3).same s4
    have nH : H fl = none := by
      cases e0 : H fl with
      | none => rfl
      | some u =>
        have nd : fl ≠ d := fun z => ((dc2.trans dc3).dice.ne nfl) z.symm
        have := (dc2.trans dc3).keep _ _ nd e0
        rw [nfl] at this
        cases this
    have nfd : fl ≠ d := fun z => ((dc2.trans dc3).dice.ne nfl) z.symm
    have pk4 := pairs_ex hd (Ex.dc dc4) pk
    obtain ⟨kvs4, ep4, rows4⟩ := id pk4
    obtain ⟨v, ev, pr, an, rfl, h1', h2'⟩ := rows4.find raw.nd he
    refine ⟨p, .ref pr, rfl, ?_, ?_⟩
    · rw [← ev]
      exact rows_get (b := b) (Or.inl ep4)
    walk_at "s"
    refine l_ixT (tup_at h1') at0 ?_
    walk_at "s"
    refine l_forR (by omega) (by have := gp.1; omega) (fun i τ G => ∃ (ys : List V) (as : List PyData) (z6 z7 : Option V), τ = [some (.ref d), some (.ref p), some (.ref wl), some (.ref sl), some (.str e.1), some (.ref fl), z6, z7] ∧ ys.length = i ∧ G fl = some (.lst ys) ∧ ys = as.map scalV ∧ as.all argD = true ∧ (∀ t ∈ as, Sz 8 0 t) ∧ (∀ i, PyData.int i ∈ as → i ∈ ss) ∧ Dc d H G) ?_ ?_ ?_
    · exact ⟨[], [], none, none, rfl, rfl, efl, rfl, rfl, fun _ h => (nomatch h), fun _ h => (nomatch h), dc4⟩
    · rintro i τ G hi ⟨ys, as, z6, z7, rfl, ly, ef, eys, al, sz, wi, dc⟩
      have esG := dc.keep _ _ ns es
      have ewG := dc.keep _ _ nw ew
      refine s_cut (fun τ J => ∃ (way : Int) (z : Option V), τ = [some (.ref d), some (.ref p), some (.ref wl), some (.ref sl), some (.str e.1), some (.ref fl), z, some (.int way)] ∧ 0 ≤ way ∧ way < 3 ∧ (way = 2 → ss ≠ []) ∧ Dc d G J) ?_ ?_
      · walk_at "s"
        refine l_newL (xs := []) (by show 0 ≤ sizeLine; decide) fun l J nl sl2 el => ?_
        refine ⟨sl, l, _, rfl, rfl, sl2 _ _ esG, el, ?_⟩
        refine l_bl (i_b (fun b1 => ?_) (fun b1 => ?_))
        · walk_at "s"
          refine ⟨d, 3, rfl, dc.dice.same sl2, by decide, by decide, fun way J2 h0 h1 dcw => ?_⟩
          walk_at "s"
          refine ⟨way, _, rfl, h0, h1, fun _ e0 => ?_, ((Dc.refl dc.dice).same sl2).trans dcw⟩
          rw [e0] at b1
          cases b1
        · walk_at "s"
          refine ⟨d, 2, rfl, dc.dice.same sl2, by decide, by decide, fun way J2 h0 h1 dcw => ?_⟩
          walk_at "s"
          exact ⟨way, _, rfl, h0, by omega, fun e0 => by omega, ((Dc.refl dc.dice).same sl2).trans dcw⟩
      · rintro τ J ⟨way, z, rfl, h0, h1, h2, dcJ⟩
        have dcHJ := dc.trans dcJ
        have efJ := dcJ.keep _ _ nfd ef
        have ewJ := dcJ.keep _ _ nw ewG
        have esJ := dcJ.keep _ _ ns esG
        walk_at "s"
        refine ⟨.ref fl, rfl, Or.inl ⟨rfl, _, SqL.of efJ⟩, ?_⟩
        walk_at "s"
        refine ⟨d, wl, _, rfl, dcJ.dice, SqL.of ewJ, nw, by rw [List.length_map]; omega, by rw [List.length_map]; omega, fun x1 J1 hx1 dc1 => ?_⟩
        obtain ⟨nm, hnm, rfl⟩ := List.mem_map.mp hx1
        have esJ1 := dc1.keep _ _ ns esJ
        walk_at "s"
        refine s_orT (s_var rfl ⟨!(ss.map V.int).isEmpty, Or.inl ⟨_, SqL.of esJ1, rfl⟩, ?_⟩)
        refine i_b (fun b1 => ?_) (fun b1 => ?_)
        · walk_at "s"
          have l0 : 0 < ss.length := by
            cases ss with
            | nil => cases b1
            | cons i r => exact Nat.succ_pos _
          refine ⟨d, sl, _, rfl, dc1.dice, SqL.of esJ1, ns, by rw [List.length_map]; exact l0, by rw [List.length_map]; omega, fun x2 J2 hx2 dc2 => ?_⟩
          have h3 : way = 2 → ∃ i ∈ ss, x2 = .int i := fun _ => by
            obtain ⟨i, hi, rfl⟩ := List.mem_map.mp hx2
            exact ⟨i, hi, rfl⟩
          walk_at "s"
          refine l_newL (xs := [V.non, V.str nm, x2]) (by show 3 ≤ sizeLine; decide) fun l3 J3 n3 s3 e3 => ?_
          walk_at "s"
          have dc3 : Dc d J J3 := (dc1.trans dc2).same s3
          have ef3 := dc3.keep _ _ nfd efJ
          have pick3 : ∃ v u, atI [V.non, V.str nm, x2] way = some v ∧ v = scalV u ∧ argD u = true ∧ Sz 8 0 u ∧ ∀ i, u = .int i → i ∈ ss := by
            rcases (show way = 0 ∨ way = 1 ∨ way = 2 by omega) with rfl | rfl | rfl
            · exact ⟨_, .none, rfl, rfl, rfl, sz_non.up (by omega) (Nat.le_refl _), fun _ z => by cases z⟩
            · exact ⟨_, .str nm, rfl, rfl, hw nm hnm, sz_name (hw nm hnm), fun _ z => by cases z⟩
            · obtain ⟨i0, hi0, rfl⟩ := h3 rfl
              obtain ⟨g0, g1⟩ := hs i0 hi0
              refine ⟨_, .int i0, rfl, rfl, decide_eq_true g0, (sz_int ?_).up (by omega) (Nat.le_refl _), fun i z => by cases z; exact hi0⟩
              exact Nat.lt_of_le_of_lt (Nat.log2_le_self _) (show i0.natAbs < 99 by omega)
          obtain ⟨v, u, ev3, vu, au, su, wu⟩ := pick3
          refine l_ixL (SqL.of e3) ev3 ?_
          walk_at "s"
          refine ⟨fl, ys, v, rfl, rfl, ef3, by have := gp.1; rw [sizeLine_eq]; omega, ?_⟩
          walk_at "s"
          refine ⟨ys ++ [v], as ++ [u], _, _, rfl, by rw [List.length_append, ly]; rfl, upd_same, by rw [List.map_append, eys]; exact congrArg _ (congrArg (fun z => [z]) vu), by rw [List.all_append, al, Bool.true_and]; show (argD u && true) = true; rw [au]; rfl, fun t ht => ?_, fun i hi => ?_, ?_⟩
          · rcases List.mem_append.mp ht with q | q
            · exact sz t q
            · rw [List.mem_singleton.mp q]
              exact su
          · rcases List.mem_append.mp hi with q | q
            · exact wi i q
            · exact wu i (List.mem_singleton.mp q).symm
          · have d1 : Dc d H J3 := dcHJ.trans dc3
            refine ⟨fun x o nx ex => ?_, ?_⟩
            · rw [upd_ne (ne_of_none ex nH)]
              exact d1.keep x o nx ex
            · obtain ⟨q1, q2, q3, q4⟩ := d1.dice
              exact ⟨q1, q2, q3, by rw [upd_ne (Ne.symm nfd)]; exact q4⟩
        · walk_at "s"
          refine l_newL (xs := [V.non]) (by show 1 ≤ sizeLine; decide) fun l2 J0 nl2 s2 el2 => ?_
          walk_at "s"
          refine ⟨d, l2, _, rfl, dc1.dice.same s2, SqL.of el2, fun z => (dc1.dice.ne nl2) z.symm, by decide, by decide, fun x2 J2 hx2 dc2' => ?_⟩
          have dc2 : Dc d J1 J2 := ((Dc.refl dc1.dice).same s2).trans dc2'
          have h3 : way = 2 → ∃ i ∈ ss, x2 = .int i := fun z => by
            have := h2 z
            cases ss with
            | nil => exact absurd rfl this
            | cons i r => cases b1
          walk_at "s"
          refine l_newL (xs := [V.non, V.str nm, x2]) (by show 3 ≤ sizeLine; decide) fun l3 J3 n3 s3 e3 => ?_
          walk_at "s"
          have dc3 : Dc d J J3 := (dc1.trans dc2).same s3
          have ef3 := dc3.keep _ _ nfd efJ
          have pick3 : ∃ v u, atI [V.non, V.str nm, x2] way = some v ∧ v = scalV u ∧ argD u = true ∧ Sz 8 0 u ∧ ∀ i, u = .int i → i ∈ ss := by
            rcases (show way = 0 ∨ way = 1 ∨ way = 2 by omega) with rfl | rfl | rfl
            · exact ⟨_, .none, rfl, rfl, rfl, sz_non.up (by omega) (Nat.le_refl _), fun _ z => by cases z⟩
            · exact ⟨_, .str nm, rfl, rfl, hw nm hnm, sz_name (hw nm hnm), fun _ z => by cases z⟩
            · obtain ⟨i0, hi0, rfl⟩ := h3 rfl
              obtain ⟨g0, g1⟩ := hs i0 hi0
              refine ⟨_, .int i0, rfl, rfl, decide_eq_true g0, (sz_int ?_).up (by omega) (Nat.le_refl _), fun i z => by cases z; exact hi0⟩
              exact Nat.lt_of_le_of_lt (Nat.log2_le_self _) (show i0.natAbs < 99 by omega)
          obtain ⟨v, u, ev3, vu, au, su, wu⟩ := pick3
          refine l_ixL (SqL.of e3) ev3 ?_
          walk_at "s"
          refine ⟨fl, ys, v, rfl, rfl, ef3, by have := gp.1; rw [sizeLine_eq]; omega, ?_⟩
          walk_at "s"
          refine ⟨ys ++ [v], as ++ [u], _, _, rfl, by rw [List.length_append, ly]; rfl, upd_same, by rw [List.map_append, eys]; exact congrArg _ (congrArg (fun z => [z]) vu), by rw [List.all_append, al, Bool.true_and]; show (argD u && true) = true; rw [au]; rfl, fun t ht => ?_, fun i hi => ?_, ?_⟩
          · rcases List.mem_append.mp ht with q | q
            · exact sz t q
            · rw [List.mem_singleton.mp q]
              exact su
          · rcases List.mem_append.mp hi with q | q
            · exact wi i q
            · exact wu i (List.mem_singleton.mp q).symm
          · have d1 : Dc d H J3 := dcHJ.trans dc3
            refine ⟨fun x o nx ex => ?_, ?_⟩
            · rw [upd_ne (ne_of_none ex nH)]
              exact d1.keep x o nx ex
            · obtain ⟨q1, q2, q3, q4⟩ := d1.dice
              exact ⟨q1, q2, q3, by rw [upd_ne (Ne.symm nfd)]; exact q4⟩
    · rintro τ G ⟨ys, as, z6, z7, rfl, ly, ef, eys, al, sz, wi, dc⟩
      walk_at "s"
      refine l_tupL (SqL.of ef) fun u J nu sj eu => ?_
      walk_at "s"
      refine l_newT (xs := [V.str "send", V.str e.1, V.ref u]) (by show 3 ≤ sizeLine; decide) fun x J2 nx s2 ex => ?_
      have la : as.length = e.2.1 := by
        rw [eys, List.length_map] at ly
        simpa using ly
      have dS : Dats d J2 ys as := by
        rw [eys]
        exact scal_dats al
      have dt : Dat d J2 (.ref x) (.tuple [.str "send", .str e.1, .tuple as]) := .tup ex (.cons (.str _) (.cons (.str _) (.cons (.tup (s2 _ _ eu) dS) .nil)))
      refine k _ _ J2 (dc.same (sj.trans s2)) dt ?_ ?_ ?_
      · show sendD b (.str "send") (.str e.1) (.tuple as) = true
        unfold sendD
        simp only [tk_some raw.nd he, la, al]
        decide +kernel
      · have sa := szs_all sz
        have l2 : as.length * (8 + 1) ≤ 18 := by have := gp.1; omega
        have sA := (sz_tup (sa.up l2 (Nat.le_refl _)) (by omega))
        have sE := sz_name (m := 1) (answer_name (raw.nm e he))
        have sS : Sz 4 1 (.str "send") := sz_str (by decide +kernel) (by decide +kernel)
        exact (sz_tup (szs_cons sS (szs_cons sE (szs_cons sA szs_nil))) (by omega)).up (by omega) (Nat.le_refl _)
      · intro x y as2 e2 i hi
        injection e2 with e2
        injection e2 with _ e2
        injection e2 with _ e2
        injection e2 with e2 _
        injection e2 with e2
        subst e2
        exact wi i hi
end
section
variable {J J' : Hp} {d : Addr} {b : PB}
theorem args_keep : ∀ {xs : List V} {as : List PyData}, as.all argD = true → Dats d J xs as → Dats d J' xs as
  | [], _, _, .nil => .nil
  | x :: xs, a :: as, h, .cons r rs => by
    rw [List.all_cons, Bool.and_eq_true] at h
    refine .cons ?_ (args_keep h.2 rs)
    cases r with
    | non => exact .non
    | int i => exact .int i
    | str s => exact .str s
    | _ => cases h.1
theorem item_keep {x : V} {t : PyData} (k : ∀ a xs, J a = some (.tup xs) → J' a = some (.tup xs)) (it : itemD b t = true) (h : Dat d J x t) : Dat d J' x t := by
  rcases item_cases it with im | ⟨_, w0, s0, as, n2, rfl, h1, _, _, h4⟩
  · have e := isS1_eq im
    subst e
    cases h with
    | tup e r =>
      cases r with
      | cons r1 r2 =>
        cases r1
        cases r2
        exact .tup (k _ _ e) (.cons (.str _) .nil)
  · have e := isS_eq h1
    subst e
    cases h with
    | tup e r =>
      obtain ⟨x1, x2, x3, t1, t2, t3, rfl, e4, d1, d2, d3⟩ := dats3 r rfl
      injection e4 with e5 e6
      injection e6 with e6 e7
      injection e7 with e7 _
      subst e5 e6 e7
      cases d1
      cases d2
      cases d3 with
      | tup e2 r2 => exact .tup (k _ _ e) (.cons (.str _) (.cons (.str _) (.cons (.tup (k _ _ e2) (args_keep h4 r2)) .nil)))
theorem items_keep (k : ∀ a xs, J a = some (.tup xs) → J' a = some (.tup xs)) : ∀ {xs : List V} {ts : List PyData}, ts.all (itemD b) = true → Dats d J xs ts → Dats d J' xs ts
  | [], _, _, .nil => .nil
  | x :: xs, a :: as, h, .cons r rs => by
    rw [List.all_cons, Bool.and_eq_true] at h
    exact .cons (item_keep k h.1 r) (items_keep k h.2 rs)
theorem sends_app {ts us : List PyData} {n : Nat} (h : n ≤ ts.length) : sendsAt (ts ++ us) n = sendsAt ts n := by
  unfold sendsAt
  congr 1
  refine List.filter_congr fun i hi => ?_
  have := List.mem_range.mp hi
  unfold sendB
  rw [List.getElem?_append_left (by omega)]
theorem sends_mem {ts : List PyData} {n : Nat} {i : Int} (h : i ∈ sendsAt ts n) : 0 ≤ i ∧ i < (n : Int) := by
  unfold sendsAt at h
  obtain ⟨j, hj, rfl⟩ := List.mem_map.mp h
  have := List.mem_range.mp (List.mem_filter.mp hj).1
  omega
theorem beh_of {ts : List PyData} {n : Nat} {t : PyData} (it : itemD b t = true) (l : n ≤ ts.length) (wi : within (sendsAt ts n) t) : behD ts n t = true := by
  rcases item_cases it with im | ⟨_, w0, s0, as, n2, rfl, h1, _, _, h4⟩
  · rw [isS1_eq im]
    rfl
  · show as.all (standD ts n) = true
    rw [List.all_eq_true]
    intro u hu
    cases u with
    | int i =>
      rw [stand_in (of_decide_eq_true (List.all_eq_true.mp h4 _ hu)) l]
      exact decide_eq_true (wi _ _ _ rfl i hu)
    | _ => rfl
theorem items_of {ts : List PyData} (al : ts.all (itemD b) = true) (wi : ∀ n t, ts[n]? = some t → within (sendsAt ts n) t) : itemsD b (.tuple ts) = true := by
  show (ts.all (itemD b) && (behs ts).all id) = true
  rw [al, Bool.true_and, List.all_eq_true]
  intro z hz
  obtain ⟨n, hn⟩ := List.mem_iff_getElem?.mp hz
  unfold behs at hn
  rw [List.getElem?_mapIdx] at hn
  obtain ⟨t, ht, rfl⟩ := Option.map_eq_some_iff.mp hn
  exact beh_of (List.all_eq_true.mp al t (List.mem_of_getElem? ht)) (Nat.le_of_lt (List.getElem?_eq_some_iff.mp ht).1) (wi n t ht)
end
section
variable {P : Program} {w : World} {K : PySem.W.Frag} {mg : Str → Option Value} {base : Heap}
def sp__law_drawn_items : Sp := fun vs H Q _ => ∃ (d p wl : Addr) (b : PB) (ws : List Str) (n : Int), vs = [.ref d, .ref p, .ref wl, .int n] ∧ 0 ≤ n ∧ n ≤ 8 ∧ DiceAt H d ∧ PairsAt H p b ∧ RawB b ∧ H wl = some (.lst (ws.map V.str)) ∧ wl ≠ d ∧ (∀ s ∈ ws, nameB s = true) ∧ 0 < ws.length ∧ ws.length ≤ 20 ∧
  ∀ x xs ts G, Dc d H G → G x = some (.tup xs) → Dats d G xs ts → itemsD b (.tuple ts) = true → ts.length ≤ 8 → (∀ t ∈ ts, Sz 33 2 t) → Q (.ref x) G
theorem ok__law_drawn_items (T : Txt K mg) : FnG P w K mg base CX0 5 T.a__law_drawn_items T.d__law_drawn_items ["dice", "pairs", "words", "many"] sp__law_drawn_items := by
  have G__law_item : FnG P w K mg base CX0 4 T.a__law_item T.d__law_item ["dice", "pairs", "words", "sends"] (sp__law_item K) := ok__law_item T
  have HP := @PassesOwn.never
  refine okG T.F__law_drawn_items sc__law_drawn_items (fun vs H Q E h => ?_) (fun cdv A fs s H vs Q E hr h => ?_)
  · obtain ⟨d, p, wl, b, ws, n, rfl, _⟩ := h
    rfl
  obtain ⟨d, p, wl, b, ws, n, rfl, n0, n1, hd, pk, raw, ew, nw, hw, w0, w1, k⟩ := h
  have nd := sc__law_drawn_items.nd
  refine ⟨_, ((pss_cons (ps_par (i := 4) (j := 5) rfl nd rfl rfl (by decide) rfl rfl (pa_cons (pe_lst pa_nil) (pa_cons (pe_lst pa_nil) pa_nil)) (by rfl))
  (pss_cons (ps_for HP rfl (pi_range1 rfl T.z_range (pa_cons (pv 3) pa_nil)) (pg_name (i := 6) nd rfl (Or.inl rfl)) (pss_cons (ps_expr (pe_bm PySem.F.plainAttrs_list PySem.F.slot_list_append PySem.F.type_list_append mt_append (pv 4) (pa_cons (pe_callG G__law_item (hr.down (by decide)) rfl T.m__law_item T.F__law_item.kp T.b__law_item .nil pass0 (pa_cons (pv 0) (pa_cons (pv 1) (pa_cons (pv 2) (pa_cons (pv 5) pa_nil))))) pa_nil)))
  (pss_one (ps_if (pt_cmpR (op_eqS hr) (pe_ix ix_tup (pe_ix ix_list (pv 4) (pv 6) (fun _ _ => rfl)) pe_int (fun _ _ => rfl)) pe_str (nomark _)) (pss_one (ps_expr (pe_bm PySem.F.plainAttrs_list PySem.F.slot_list_append PySem.F.type_list_append mt_append (pv 5) (pa_cons (pv 6) pa_nil)))) pss_nil))))
  (pss_one (ps_ret (pe_callTy c_tuple (by rfl) T.z_tuple (by decide +kernel) (pa_cons (pv 4) pa_nil))))))), ?_⟩
  walk_at "s"
  refine l_newL (xs := []) (by show 0 ≤ sizeLine; decide) fun fl G1 nfl s1 efl => ?_
  walk_at "s"
  refine l_newL (xs := []) (by show 0 ≤ sizeLine; decide) fun sl G2 nsl s2 esl => ?_
  walk_at "s"
  have nHs : H sl = none := none_of_same s1 nsl
  have nfd : fl ≠ d := fun z => (hd.ne nfl) z.symm
  have nsd : sl ≠ d := fun z => ((hd.same s1).ne nsl) z.symm
  have nfs : fl ≠ sl := fun z => by rw [z, nsl] at efl; cases efl
  have dc0 : Dc d H G2 := (Dc.refl hd).same (s1.trans s2)
  refine l_forR (by omega) (by omega) (fun i τ G => ∃ (ys : List V) (ts : List PyData) (z : Option V), τ = [some (.ref d), some (.ref p), some (.ref wl), some (.int n), some (.ref fl), some (.ref sl), z] ∧ ys.length = i ∧ G fl = some (.lst ys) ∧ Dats d G ys ts ∧ ts.all (itemD b) = true ∧ (∀ t ∈ ts, Sz 33 2 t) ∧ (∀ n t, ts[n]? = some t → within (sendsAt ts n) t) ∧ G sl = some (.lst ((sendsAt ts i).map V.int)) ∧ Dc d H G) ?_ ?_ ?_
  · exact ⟨[], [], none, rfl, rfl, s2 _ _ efl, .nil, rfl, fun _ h => (nomatch h), fun _ _ h => (nomatch h), esl, dc0⟩
  · rintro i τ G hi ⟨ys, ts, z, rfl, ly, ef, dys, al, sz, wi, es, dc⟩
    have lt : ts.length = i := by rw [← dys.len, ly]
    walk_at "s"
    refine ⟨.ref fl, rfl, Or.inl ⟨rfl, _, SqL.of ef⟩, ?_⟩
    walk_at "s"
    refine ⟨d, p, wl, sl, b, ws, sendsAt ts i, rfl, dc.dice, pairs_ex hd (Ex.dc dc) pk, raw, dc.keep _ _ nw ew, nw, hw, w0, w1, es, nsd, fun j hj => by have := sends_mem hj; omega, by have := sends_len (ts := ts) (n := i); omega, fun x t J dcJ dt it szt wit => ?_⟩
    walk_at "s"
    have efJ := dcJ.keep _ _ nfd ef
    have esJ := dcJ.keep _ _ nsd es
    have dysJ := Dats.ex dc.dice (Ex.dc dcJ) dys
    refine ⟨fl, ys, x, rfl, rfl, efJ, by rw [sizeLine_eq]; omega, ?_⟩
    walk_at "s"
    have tk : ∀ a xs, J a = some (.tup xs) → upd J fl (.lst (ys ++ [x])) a = some (.tup xs) := fun a xs e => by
      rw [upd_ne (ne_of e efJ fun z => by cases z)]
      exact e
    have dtU := item_keep tk it dt
    have dyU := items_keep tk al dysJ
    have dcU : Dc d H (upd J fl (.lst (ys ++ [x]))) := by
      have d1 := dc.trans dcJ
      refine ⟨fun y o ny ey => ?_, ?_⟩
      · rw [upd_ne (ne_of_none ey nfl)]
        exact d1.keep y o ny ey
      · obtain ⟨q1, q2, q3, q4⟩ := d1.dice
        exact ⟨q1, q2, q3, by rw [upd_ne (Ne.symm nfd)]; exact q4⟩
    have tn : (ts ++ [t])[i]? = some t := by rw [← lt]; exact List.getElem?_concat_length ..
    have sn : sendsAt (ts ++ [t]) (i + 1) = sendsAt ts i ++ (if isS1 t "mark" = true then [] else [(i : Int)]) := by
      rw [sends_succ tn, sends_app (by omega)]
    have al2 : (ts ++ [t]).all (itemD b) = true := by
      rw [List.all_append, al, Bool.true_and]
      show (itemD b t && true) = true
      rw [it]
      rfl
    have sz2 : ∀ u ∈ ts ++ [t], Sz 33 2 u := fun u hu => by
      rcases List.mem_append.mp hu with q | q
      · exact sz u q
      · rw [List.mem_singleton.mp q]
        exact szt
    have wi2 : ∀ n u, (ts ++ [t])[n]? = some u → within (sendsAt (ts ++ [t]) n) u := fun m u hu => by
      have lm : m < (ts ++ [t]).length := (List.getElem?_eq_some_iff.mp hu).1
      rw [List.length_append, List.length_singleton] at lm
      rw [sends_app (by omega)]
      by_cases c : m < ts.length
      · rw [List.getElem?_append_left c] at hu
        exact wi m u hu
      · have e : m = i := by omega
        subst e
        rw [tn] at hu
        obtain rfl := Option.some.inj hu
        exact wit
    have efU : upd J fl (.lst (ys ++ [x])) fl = some (.lst (ys ++ [x])) := upd_same
    have esU : upd J fl (.lst (ys ++ [x])) sl = some (.lst ((sendsAt ts i).map V.int)) := by
      rw [upd_ne (Ne.symm nfs)]
      exact esJ
    have xi : (ys ++ [x])[i]? = some x := by rw [← ly]; exact List.getElem?_concat_length ..
    refine l_ixL (SqL.of efU) (v := x) (atI_nat xi) ?_
    walk_at "s"
    rcases item_cases it with im | ⟨im, w0, s0, as, n2, rfl, h1, _, _, h4⟩
    · have e := isS1_eq im
      subst e
      obtain ⟨ax, xs1, rfl, eax, dxs⟩ : ∃ ax xs1, x = .ref ax ∧ upd J fl (.lst (ys ++ [x])) ax = some (.tup xs1) ∧ Dats d (upd J fl (.lst (ys ++ [x]))) xs1 [PyData.str "mark"] := by
        cases dtU with
        | tup e r => exact ⟨_, _, rfl, e, r⟩
      cases dxs with
      | cons r1 r2 =>
        cases r2
        refine l_ixT (tup_at eax) (i := 0) rfl ?_
        walk_at "s"
        refine ⟨d, _, "send", r1, rfl, ?_⟩
        refine l_bl (i_f (by decide +kernel) ?_)
        walk_at "s"
        refine ⟨_, ts ++ [.tuple [.str "mark"]], _, rfl, by rw [List.length_append, ly]; rfl, efU, Dats.app dyU (.cons dtU .nil), al2, sz2, wi2, ?_, dcU⟩
        rw [sn, if_pos im, List.append_nil]
        exact esU
    · obtain ⟨ax, xs1, rfl, eax, dxs⟩ : ∃ ax xs1, x = .ref ax ∧ upd J fl (.lst (ys ++ [x])) ax = some (.tup xs1) ∧ Dats d (upd J fl (.lst (ys ++ [x]))) xs1 [w0, .str s0, .tuple as] := by
        cases dtU with
        | tup e r => exact ⟨_, _, rfl, e, r⟩
      obtain ⟨xw, xc, xa, tw, tc, ta, rfl, e4, dw, dc3, da⟩ := dats3 dxs rfl
      injection e4 with e5 e6
      subst e5
      refine l_ixT (tup_at eax) (i := 0) rfl ?_
      walk_at "s"
      refine ⟨d, _, "send", dw, rfl, ?_⟩
      refine l_bl (i_t h1 ?_)
      walk_at "s"
      refine ⟨.ref sl, rfl, Or.inl ⟨rfl, _, SqL.of esU⟩, ?_⟩
      walk_at "s"
      refine ⟨sl, _, .int i, rfl, rfl, esU, by have := sends_len (ts := ts) (n := i); rw [List.length_map, sizeLine_eq]; omega, ?_⟩
      walk_at "s"
      have tk2 : ∀ a xs, upd J fl (.lst (ys ++ [.ref ax])) a = some (.tup xs) → upd (upd J fl (.lst (ys ++ [.ref ax]))) sl (.lst ((sendsAt ts i).map V.int ++ [.int i])) a = some (.tup xs) := fun a xs e => by
        rw [upd_ne (ne_of e esU fun z => by cases z)]
        exact e
      refine ⟨_, ts ++ [.tuple [w0, .str s0, .tuple as]], _, rfl, by rw [List.length_append, ly]; rfl, by rw [upd_ne nfs]; exact efU, items_keep tk2 al2 (Dats.app dyU (.cons dtU .nil)), al2, sz2, wi2, ?_, ?_⟩
      · rw [upd_same, sn, im, if_neg Bool.false_ne_true, List.map_append]
        rfl
      · refine ⟨fun y o ny ey => ?_, ?_⟩
        · rw [upd_ne (ne_of_none ey nHs)]
          exact dcU.keep y o ny ey
        · obtain ⟨q1, q2, q3, q4⟩ := dcU.dice
          exact ⟨q1, q2, q3, by rw [upd_ne (Ne.symm nsd)]; exact q4⟩
  · rintro τ G ⟨ys, ts, z, rfl, ly, ef, dys, al, sz, wi, es, dc⟩
    walk_at "s"
    refine l_tupL (SqL.of ef) fun u J nu sj eu => ?_
    refine k u ys ts J (dc.same sj) eu (Dats.same sj dys) (items_of al wi) ?_ sz
    rw [← dys.len, ly]
    omega
end
/-! ### spoilt values -/
section
variable {d : Addr} {H : Hp} {n m : Nat}
theorem cut_any {xs : List V} {ts : List PyData} (lo hi : Option Int) (ds : Dats d H xs ts) (z : Szs n m ts) : ∃ us, Dats d H (cutV xs lo hi) us ∧ Szs n m us := by
  unfold cutV
  exact ⟨_, Dats.take _ (Dats.drop _ ds), szs_take _ (szs_drop _ z)⟩
theorem mem_of_valV {kvs : List (Key × V)} {k : Key} : (kvs.any fun kv => decide (kv.1 = k)) = true ↔ k ∈ kvs.map (·.1) := by
  rw [List.any_eq_true]
  constructor
  · rintro ⟨kv, hkv, e⟩
    rw [← of_decide_eq_true e]
    exact List.mem_map_of_mem hkv
  · intro h
    obtain ⟨kv, hkv, e⟩ := List.mem_map.mp h
    exact ⟨kv, hkv, decide_eq_true e⟩
theorem merge_nil {kvs : List (Key × V)} (nd : (kvs.map (·.1)).Nodup) : mergeK [] kvs = kvs := by
  suffices h : ∀ (kvs acc : List (Key × V)), ((acc ++ kvs).map (·.1)).Nodup → mergeK acc kvs = acc ++ kvs from h kvs [] nd
  intro kvs
  induction kvs with
  | nil => intro acc _; rw [List.append_nil]; rfl
  | cons p r ih =>
    intro acc nd
    have fresh : ¬ (acc.any fun kv => decide (kv.1 = p.1)) = true := fun z => by
      rw [List.map_append, List.nodup_append] at nd
      exact nd.2.2 p.1 (mem_of_valV.mp z) p.1 List.mem_cons_self rfl
    have e : mergeK acc (p :: r) = mergeK (acc ++ [p]) r := by
      show mergeK (putK acc p.1 p.2) r = _
      unfold putK
      rw [if_neg fresh]
    rw [e, ih (acc ++ [p]) (by rw [List.append_assoc]; exact nd), List.append_assoc]
    rfl
theorem paired_get {α β : Type} {F : α → β → Prop} : ∀ {l : List α} {m : List β}, l.length = m.length → (∀ (j : Nat) a b, l[j]? = some a → m[j]? = some b → F a b) → Paired F l m
  | [], [], _, _ => .nil
  | [], _ :: _, h, _ => by cases h
  | _ :: _, [], h, _ => by cases h
  | a :: l, b :: m, h, k => .cons (k 0 a b rfl rfl) (paired_get (by simpa using h) fun j x y hx hy => k (j + 1) x y hx hy)
def enK (xs : List V) : List (Key × V) := xs.mapIdx fun i x => (Sum.inl (i : Int), x)
theorem enK_get {xs : List V} {j : Nat} : (enK xs)[j]? = xs[j]?.map fun x => (Sum.inl (j : Int), x) := List.getElem?_mapIdx
theorem enK_snd {xs : List V} : (enK xs).map (·.2) = xs := by
  refine List.ext_getElem? fun j => ?_
  rw [List.getElem?_map, enK_get]
  cases xs[j]? <;> rfl
theorem enK_keys {xs : List V} : (enK xs).map (·.1) = (List.range xs.length).map fun (i : Nat) => (Sum.inl (i : Int) : Key) := by
  refine List.ext_getElem? fun j => ?_
  rw [List.getElem?_map, enK_get, List.getElem?_map]
  by_cases h : j < xs.length
  · rw [List.getElem?_eq_getElem h, List.getElem?_range h]
    rfl
  · rw [List.getElem?_eq_none (by omega), List.getElem?_eq_none (by rw [List.length_range]; omega)]
    rfl
theorem enK_nodup {xs : List V} : ((enK xs).map (·.1)).Nodup := by
  rw [enK_keys]
  refine List.Pairwise.map _ (fun (a b : Nat) (h : a < b) e => ?_) List.pairwise_lt_range
  have e1 : ((a : Nat) : Int) = b := Sum.inl.inj e
  omega
theorem s_listEn {K : PySem.W.Frag} {σ : L2.St} {tar : TA} {Q : VK} (q : tar σ H fun vs H1 => rListEn K vs H1 Q) : tListEn K tar σ H Q := q
end
section
variable {P : Program} {w : World} {K : PySem.W.Frag} {mg : Str → Option Value} {base : Heap}
def sp__law_spoilt : Sp := fun vs H Q _ => ∃ (d a o : Addr) (xs ys : List V) (ts : List PyData) (n k m : Nat), vs = [.ref d, .ref a, .ref o] ∧ DiceAt H d ∧ H a = some (.tup xs) ∧ Dats d H xs ts ∧ Szs n m ts ∧ H o = some (.lst ys) ∧ o ≠ d ∧ 0 < ys.length ∧ ys.length ≤ 1000 ∧ (∀ y ∈ ys, PrU d k m H y) ∧ 3 * n + k + 1 ≤ 1000 ∧
  ∀ x G, Dc d H G → PrU d (3 * n + k + 1) (m + 2) G x → Q x G
theorem ok__law_spoilt (T : Txt K mg) : FnG P w K mg base CX0 3 T.a__law_spoilt T.d__law_spoilt ["dice", "value", "odd"] sp__law_spoilt := by
  have G__law_roll : FnG P w K mg base CX0 1 T.a__law_roll T.d__law_roll ["dice", "total"] sp__law_roll := ok__law_roll T
  have G__law_one_of : FnG P w K mg base CX0 2 T.a__law_one_of T.d__law_one_of ["dice", "items"] (sp__law_one_of K) := ok__law_one_of T
  have G__law_mixed : FnG P w K mg base CX0 2 T.a__law_mixed T.d__law_mixed ["dice", "items"] (sp__law_mixed K) := ok__law_mixed T
  refine okG T.F__law_spoilt sc__law_spoilt (fun vs H Q E h => ?_) (fun cdv A fs s H vs Q E hr h => ?_)
  · obtain ⟨d, a, o, xs, ys, ts, n, k, m, rfl, _⟩ := h
    rfl
  obtain ⟨d, a, o, xs, ys, ts, n, kk, m, rfl, hd, ea, ds, szs, eo, no, y0, y1, hy, bnd, k⟩ := h
  have nd := sc__law_spoilt.nd
  refine ⟨_, ((pss_cons (ps_par (i := 3) (j := 4) rfl nd rfl rfl (by decide) rfl rfl (pa_cons (pe_callG G__law_roll (hr.down (by decide)) rfl T.m__law_roll T.F__law_roll.kp T.b__law_roll .nil pass0 (pa_cons (pv 0) (pa_cons pe_int pa_nil))) (pa_cons (pe_callG G__law_roll (hr.down (by decide)) rfl T.m__law_roll T.F__law_roll.kp T.b__law_roll .nil pass0 (pa_cons (pv 0) (pa_cons (pe_op op_add (pe_callB c_len (by rfl) T.z_len (by decide +kernel) (pa_cons (pv 1) pa_nil)) pe_int) pa_nil))) pa_nil)) (by rfl))
  (pss_cons (ps_if (pt_cmpR op_eq (pv 3) pe_int (nomark _)) (pss_one (ps_ret (pe_op op_catA (pe_slice sl_tupA (pv 1) po_none (po_some (pv 4))) (pe_slice sl_tupA (pv 1) (po_some (pe_op op_add (pv 4) pe_int)) po_none)))) pss_nil)
  (pss_cons (ps_if (pt_cmpR op_eq (pv 3) pe_int (nomark _)) (pss_one (ps_ret (pe_op op_catA (pe_op op_catA (pe_slice sl_tupA (pv 1) po_none (po_some (pv 4))) (pe_tup (pa_cons (pe_callG G__law_one_of (hr.down (by decide)) rfl T.m__law_one_of T.F__law_one_of.kp T.b__law_one_of .nil pass0 (pa_cons (pv 0) (pa_cons (pv 2) pa_nil))) pa_nil))) (pe_slice sl_tupA (pv 1) (po_some (pv 4)) po_none)))) pss_nil)
  (pss_cons (ps_if (pt_cmpR op_eq (pv 3) pe_int (nomark _)) (pss_one (ps_ret (pe_op op_catA (pe_op op_catA (pe_slice sl_tupA (pv 1) po_none (po_some (pv 4))) (pe_slice sl_tupA (pv 1) (po_some (pv 4)) (po_some (pe_op op_add (pv 4) pe_int)))) (pe_slice sl_tupA (pv 1) (po_some (pv 4)) po_none)))) pss_nil)
  (pss_cons (ps_if (pt_cmpR op_eq (pv 3) pe_int (nomark _)) (pss_one (ps_ret (pe_callTy c_tuple (by rfl) T.z_tuple (by decide +kernel) (pa_cons (pe_callG G__law_mixed (hr.down (by decide)) rfl T.m__law_mixed T.F__law_mixed.kp T.b__law_mixed .nil pass0 (pa_cons (pv 0) (pa_cons (pe_callTy c_list (by rfl) T.z_list (by decide +kernel) (pa_cons (pv 1) pa_nil)) pa_nil))) pa_nil)))) pss_nil)
  (pss_cons (ps_if (pt_cmpR op_eq (pv 3) pe_int (nomark _)) (pss_one (ps_ret (pe_callG G__law_one_of (hr.down (by decide)) rfl T.m__law_one_of T.F__law_one_of.kp T.b__law_one_of .nil pass0 (pa_cons (pv 0) (pa_cons (pe_lst (pa_cons (pe_callTy c_list (by rfl) T.z_list (by decide +kernel) (pa_cons (pv 1) pa_nil)) (pa_cons pe_non (pa_cons pe_int (pa_cons (pe_op op_catA (pv 1) (pv 1)) (pa_cons (pe_tup (pa_cons (pv 1) pa_nil)) (pa_cons (pe_callTy (c_dictP rfl) (by rfl) T.z_dict (by decide +kernel) (pa_cons (pe_listEnT rfl (pa_cons (pv 1) pa_nil) (by rfl) T.z_enumerate (by rfl) T.z_list (by decide +kernel)) pa_nil)) pa_nil))))))) pa_nil))))) pss_nil)
  (pss_one (ps_ret (pe_op op_catA (pe_op op_catA (pe_slice sl_tupA (pv 1) po_none (po_some (pv 4))) (pe_tup (pa_cons (pe_callG G__law_one_of (hr.down (by decide)) rfl T.m__law_one_of T.F__law_one_of.kp T.b__law_one_of .nil pass0 (pa_cons (pv 0) (pa_cons (pv 2) pa_nil))) pa_nil))) (pe_slice sl_tupA (pv 1) (po_some (pe_op op_add (pv 4) pe_int)) po_none))))))))))), ?_⟩
  walk_at "s"
  refine ⟨d, 6, rfl, hd, by decide, by decide, fun way H1 h0 h1 dc1 => ?_⟩
  walk_at "s"
  have ea1 := (Ex.dc dc1).at hd ea (fun _ z => by cases z) (fun _ z => by cases z)
  refine l_lenT (tup_at ea1) ?_
  walk_at "s"
  refine ⟨d, _, rfl, dc1.dice, by omega, by have := ds.len; have := szs_len szs; omega, fun at_ H2 a0 a1 dc2 => ?_⟩
  walk_at "s"
  have dc12 := dc1.trans dc2
  have hd2 := dc12.dice
  have ea2 := (Ex.dc dc12).at hd ea (fun _ z => by cases z) (fun _ z => by cases z)
  have ds2 := Dats.ex hd (Ex.dc dc12) ds
  have eo2 := dc12.keep _ _ no eo
  have lx : xs.length ≤ n := by rw [ds.len]; exact szs_len szs
  have hy2 : ∀ y ∈ ys, PrU d kk m H2 y := fun y h => pru_ex hd (Ex.dc dc12) (hy y h)
  have fin2 : ∀ (us vs : List PyData) (ws : List V) (p : Addr) (G : Hp) (n2 : Nat), Same H2 G → G p = some (.tup ws) → Dats d G ws us → Szs n2 (m + 1) us → n2 ≤ 3 * n + kk + 1 → Q (.ref p) G := fun us vs ws p G n2 s e dw zw l =>
    k _ G (dc12.same s) ⟨_, .tup e dw, (sz_tup (zw.up l (Nat.le_refl _)) bnd)⟩
  refine i_dec (fun z => ?_) (fun z => ?_)
  · walk_at "s"
    refine l_slA ea2 fun p1 G1 s1 e1 => ?_
    walk_at "s"
    refine l_slA (s1 _ _ ea2) fun p2 G2 s2 e2 => ?_
    refine l_catA (s2 _ _ e1) e2 (by have := cutV_length xs none (some at_); have := cutV_length xs (some (at_ + 1)) none; rw [sizeLine_eq]; omega) fun p3 G3 s3 e3 => ?_
    have sA := (s1.trans s2).trans s3
    obtain ⟨u1, d1, z1⟩ := cut_any none (some at_) (Dats.same sA ds2) szs
    obtain ⟨u2, d2, z2⟩ := cut_any (some (at_ + 1)) none (Dats.same sA ds2) szs
    exact fin2 _ [] _ p3 G3 _ sA e3 (d1.app d2) ((szs_app z2 z1).up (Nat.le_refl _) (Nat.le_succ m)) (by omega)
  walk_at "s"
  refine i_dec (fun z => ?_) (fun z => ?_)
  · walk_at "s"
    refine l_slA ea2 fun p1 G1 s1 e1 => ?_
    walk_at "s"
    have dcs1 : Dc d H G1 := dc12.same s1
    refine ⟨d, o, ys, rfl, dcs1.dice, SqL.of (s1 _ _ eo2), no, y0, by omega, fun y G2 hyy dcy => ?_⟩
    walk_at "s"
    have xs2 : Ex d G1 G2 := Ex.dc dcy
    have e1' := xs2.at dcs1.dice e1 (fun _ z => by cases z) (fun _ z => by cases z)
    have ea3 := xs2.at dcs1.dice (s1 _ _ ea2) (fun _ z => by cases z) (fun _ z => by cases z)
    refine l_newT (xs := [y]) (by show 1 ≤ sizeLine; decide) fun p3 G3 n3 s3 e3 => ?_
    refine l_catA (s3 _ _ e1') e3 (by have := cutV_length xs none (some at_); rw [sizeLine_eq]; simp; omega) fun p4 G4 s4 e4 => ?_
    walk_at "s"
    refine l_slA (s4 _ _ (s3 _ _ ea3)) fun p5 G5 s5 e5 => ?_
    refine l_catA (s5 _ _ e4) e5 (by have := cutV_length xs none (some at_); have := cutV_length xs (some at_) none; rw [List.length_append, sizeLine_eq]; simp; omega) fun p6 G6 s6 e6 => ?_
    have sA := ((s3.trans s4).trans s5).trans s6
    have dsF := Dats.same sA (Dats.ex dcs1.dice xs2 (Dats.same s1 ds2))
    obtain ⟨u1, d1, z1⟩ := cut_any none (some at_) dsF szs
    obtain ⟨u2, d2, z2⟩ := cut_any (some at_) none dsF szs
    obtain ⟨ty, dy, zy⟩ := pru_same _ _ _ sA (pru_ex dcs1.dice xs2 (pru_same _ _ _ s1 (hy2 y hyy)))
    refine k _ G6 ((dcs1.trans dcy).same sA) ⟨_, .tup e6 ((d1.app (.cons dy .nil)).app d2), (sz_tup ((szs_app z2 (szs_app (szs_cons zy szs_nil) z1)).up (by omega) (Nat.le_succ m)) bnd)⟩
  walk_at "s"
  refine i_dec (fun z => ?_) (fun z => ?_)
  · walk_at "s"
    refine l_slA ea2 fun p1 G1 s1 e1 => ?_
    walk_at "s"
    refine l_slA (s1 _ _ ea2) fun p2 G2 s2 e2 => ?_
    refine l_catA (s2 _ _ e1) e2 (by have := cutV_length xs none (some at_); have := cutV_length xs (some at_) (some (at_ + 1)); rw [sizeLine_eq]; omega) fun p3 G3 s3 e3 => ?_
    walk_at "s"
    refine l_slA (s3 _ _ (s2 _ _ (s1 _ _ ea2))) fun p4 G4 s4 e4 => ?_
    refine l_catA (s4 _ _ e3) e4 (by have := cutV_length xs none (some at_); have := cutV_length xs (some at_) (some (at_ + 1)); have := cutV_length xs (some at_) none; rw [List.length_append, sizeLine_eq]; omega) fun p5 G5 s5 e5 => ?_
    have sA := (((s1.trans s2).trans s3).trans s4).trans s5
    have dsF := Dats.same sA ds2
    obtain ⟨u1, d1, z1⟩ := cut_any none (some at_) dsF szs
    obtain ⟨u2, d2, z2⟩ := cut_any (some at_) (some (at_ + 1)) dsF szs
    obtain ⟨u3, d3, z3⟩ := cut_any (some at_) none dsF szs
    exact fin2 _ [] _ p5 G5 _ sA e5 ((d1.app d2).app d3) ((szs_app z3 (szs_app z2 z1)).up (Nat.le_refl _) (Nat.le_succ m)) (by omega)
  walk_at "s"
  refine i_dec (fun z => ?_) (fun z => ?_)
  · walk_at "s"
    refine l_listT (tup_at ea2) fun l G1 nl s1 e1 => ?_
    walk_at "s"
    have dcs1 : Dc d H G1 := dc12.same s1
    have nld : l ≠ d := fun q => (hd2.ne nl) q.symm
    refine ⟨d, l, xs, rfl, dcs1.dice, SqL.of e1, nld, by omega, fun p2 G2 ws pm np e2 dcm => ?_⟩
    walk_at "s"
    refine l_tupL (SqL.of e2) fun p3 G3 n3 s3 e3 => ?_
    walk_at "s"
    have dsF := Dats.same s3 (Dats.ex dcs1.dice (Ex.dc dcm) (Dats.same s1 ds2))
    obtain ⟨us, du, pu⟩ := Dats.perm pm dsF
    exact k _ G3 ((dcs1.trans dcm).same s3) ⟨_, .tup e3 du, (sz_tup ((szs_perm pu szs).up (by omega) (Nat.le_succ m)) bnd)⟩
  walk_at "s"
  refine i_dec (fun z => ?_) (fun z => ?_)
  · walk_at "s"
    refine l_listT (tup_at ea2) fun l1 G1 nl1 s1 e1 => ?_
    walk_at "s"
    refine l_catA (s1 _ _ ea2) (s1 _ _ ea2) (by rw [sizeLine_eq]; omega) fun p2 G2 s2 e2 => ?_
    walk_at "s"
    refine l_newT (xs := [.ref a]) (by show 1 ≤ sizeLine; decide) fun p3 G3 n3 s3 e3 => ?_
    walk_at "s"
    refine s_listEn ?_
    walk_at "s"
    have s123 := (s1.trans s2).trans s3
    refine ⟨a, xs, rfl, s123 _ _ ea2, by omega, fun S tps G4 nS s4 eS pr => ?_⟩
    walk_at "s"
    have lk : (enK xs).length = xs.length := List.length_mapIdx ..
    refine l_dictP (kvs := enK xs) (SqL.of eS) (paired_get (by rw [lk]; exact pr.1) fun j T kv hj hk => ?_) fun p5 G5 n5 s5 e5 => ?_
    · obtain ⟨x, hx, hT⟩ := pr.2 j T hj
      rw [enK_get, hx] at hk
      obtain rfl := Option.some.inj hk
      exact tup_at hT
    rw [merge_nil enK_nodup] at e5
    walk_at "s"
    refine l_newL (xs := [V.ref l1, .non, .int 0, .ref p2, .ref p3, .ref p5]) (by show 6 ≤ sizeLine; decide) fun L G6 nL s6 eL => ?_
    walk_at "s"
    have s4' : Same G3 G4 := s4
    have s16 := ((s123.trans s4').trans s5).trans s6
    have dc6 : Dc d H G6 := dc12.same s16
    have nLd : L ≠ d := fun q => ((hd2.same ((s123.trans s4').trans s5)).ne nL) q.symm
    refine ⟨d, L, _, rfl, dc6.dice, SqL.of eL, nLd, by show 0 < 6; decide, by show 6 < 1000000; decide, fun x G7 hx dc7 => ?_⟩
    refine k x G7 (dc6.trans dc7) (pru_ex dc6.dice (Ex.dc dc7) ?_)
    have dsF := Dats.same s16 ds2
    have l1d : l1 ≠ d := fun q => (hd2.ne nl1) q.symm
    simp only [List.mem_cons, List.not_mem_nil, or_false] at hx
    rcases hx with rfl | rfl | rfl | rfl | rfl | rfl
    · exact ⟨_, .lst (((((s2.trans s3).trans s4').trans s5).trans s6) _ _ e1) l1d dsF, (sz_lst (szs.up (by omega) (Nat.le_succ m)) bnd)⟩
    · exact ⟨_, .non, sz_non.up (Nat.zero_le _) (Nat.le_refl _)⟩
    · exact ⟨_, .int 0, (sz_int (by decide)).up (Nat.zero_le _) (Nat.le_refl _)⟩
    · exact ⟨_, .tup ((((s3.trans s4').trans s5).trans s6) _ _ e2) (dsF.app dsF), (sz_tup ((szs_app szs szs).up (by omega) (Nat.le_succ m)) bnd)⟩
    · exact ⟨_, .tup (((s4'.trans s5).trans s6) _ _ e3) (.cons (.tup (s16 _ _ ea2) dsF) .nil), (sz_tup ((szs_cons (sz_tup szs (by omega)) szs_nil).up (by omega) (Nat.le_refl _)) bnd)⟩
    · refine ⟨_, .dct (kvs := enK xs) (s6 _ _ e5) (by rw [enK_snd]; exact dsF), ?_⟩
      have ek : ((enK xs).map fun p => keyD p.1) = ((enK xs).map (·.1)).map keyD := by rw [List.map_map]; rfl
      rw [ek]
      refine (sz_dct (fun key hk => ?_) szs).up (by omega) (by omega)
      rw [enK_keys] at hk
      obtain ⟨i, hi, rfl⟩ := List.mem_map.mp hk
      have il := List.mem_range.mp hi
      refine (sz_int (i := (i : Int)) ?_).up (Nat.zero_le _) (Nat.le_refl _)
      show (i : Nat).log2 < 99
      by_cases z0 : i = 0
      · subst z0
        decide
      · exact (Nat.log2_lt z0).mpr (Nat.lt_of_lt_of_le (show i < 1024 by omega) (by decide))
  · walk_at "s"
    refine l_slA ea2 fun p1 G1 s1 e1 => ?_
    walk_at "s"
    have dcs1 : Dc d H G1 := dc12.same s1
    refine ⟨d, o, ys, rfl, dcs1.dice, SqL.of (s1 _ _ eo2), no, y0, by omega, fun y G2 hyy dcy => ?_⟩
    walk_at "s"
    have xs2 : Ex d G1 G2 := Ex.dc dcy
    have e1' := xs2.at dcs1.dice e1 (fun _ z => by cases z) (fun _ z => by cases z)
    have ea3 := xs2.at dcs1.dice (s1 _ _ ea2) (fun _ z => by cases z) (fun _ z => by cases z)
    refine l_newT (xs := [y]) (by show 1 ≤ sizeLine; decide) fun p3 G3 n3 s3 e3 => ?_
    refine l_catA (s3 _ _ e1') e3 (by have := cutV_length xs none (some at_); rw [sizeLine_eq]; simp; omega) fun p4 G4 s4 e4 => ?_
    walk_at "s"
    refine l_slA (s4 _ _ (s3 _ _ ea3)) fun p5 G5 s5 e5 => ?_
    refine l_catA (s5 _ _ e4) e5 (by have := cutV_length xs none (some at_); have := cutV_length xs (some (at_ + 1)) none; rw [List.length_append, sizeLine_eq]; simp; omega) fun p6 G6 s6 e6 => ?_
    have sA := ((s3.trans s4).trans s5).trans s6
    have dsF := Dats.same sA (Dats.ex dcs1.dice xs2 (Dats.same s1 ds2))
    obtain ⟨u1, d1, z1⟩ := cut_any none (some at_) dsF szs
    obtain ⟨u2, d2, z2⟩ := cut_any (some (at_ + 1)) none dsF szs
    obtain ⟨ty, dy, zy⟩ := pru_same _ _ _ sA (pru_ex dcs1.dice xs2 (pru_same _ _ _ s1 (hy2 y hyy)))
    refine k _ G6 ((dcs1.trans dcy).same sA) ⟨_, .tup e6 ((d1.app (.cons dy .nil)).app d2), (sz_tup ((szs_app z2 (szs_app (szs_cons zy szs_nil) z1)).up (by omega) (Nat.le_succ m)) bnd)⟩
end
/-! ### changed items, changed rows -/
local macro_rules | `(tactic| walk_at "ud1") => `(tactic| first
  | (with_reducible exact ud_bl) | (with_reducible exact ud_non) | ((with_reducible refine ud_int ?h); (case h => decide +kernel)) | ((with_reducible refine ud_str ?h); (case h => decide +kernel))
  | ((with_reducible refine ud_neg ?h); (case h => decide +kernel)) | ((with_reducible refine ud_pow ?h ?k); (case h => decide +kernel); (case k => decide +kernel)) | (with_reducible exact ud_dnew) | (with_reducible exact ud_disp (by decide))
  | (with_reducible exact ud_tup0) | (with_reducible exact ud_tupN (by decide)) | (with_reducible exact ud_tupT (by decide)) | (with_reducible exact ud_lst0 (by assumption)) | ((with_reducible refine ud_tupS ?h); (case h => decide +kernel)) | ((with_reducible refine ud_lstS (by assumption) ?h); (case h => decide +kernel)))
local macro_rules | `(tactic| walk_at "ud") => `(tactic| first
  | (exact allA_nil)
  | ((refine' allA_cons pru_same ?h1 ?h2); (case h1 => walk_at "ud1"); (case h2 => walk_at "ud")))
section
variable {P : Program} {w : World} {K : PySem.W.Frag} {mg : Str → Option Value} {base : Heap}
def sp__law_changed_item : Sp := fun vs H Q _ => ∃ (d p : Addr) (b : PB) (x : V) (t : PyData), vs = [.ref d, .ref p, x] ∧ DiceAt H d ∧ PairsAt H p b ∧ RawB b ∧ Dat d H x t ∧ itemD b t = true ∧ Sz 33 2 t ∧ ∀ y G, Dc d H G → PrU d 135 7 G y → Q y G
theorem ok__law_changed_item (T : Txt K mg) : FnG P w K mg base CX0 4 T.a__law_changed_item T.d__law_changed_item ["dice", "pairs", "item"] sp__law_changed_item := by
  have G__law_roll : FnG P w K mg base CX0 1 T.a__law_roll T.d__law_roll ["dice", "total"] sp__law_roll := ok__law_roll T
  have G__law_one_of : FnG P w K mg base CX0 2 T.a__law_one_of T.d__law_one_of ["dice", "items"] (sp__law_one_of K) := ok__law_one_of T
  have G__law_spoilt : FnG P w K mg base CX0 3 T.a__law_spoilt T.d__law_spoilt ["dice", "value", "odd"] sp__law_spoilt := ok__law_spoilt T
  refine okG T.F__law_changed_item sc__law_changed_item (fun vs H Q E h => ?_) (fun cdv A fs s H vs Q E hr h => ?_)
  · obtain ⟨d, p, b, x, t, rfl, _⟩ := h
    rfl
  obtain ⟨d, p, b, x, t, rfl, hd, pk, raw, dt, it, sz, k⟩ := h
  have nd := sc__law_changed_item.nd
  refine ⟨_, ((pss_cons (ps_par (i := 3) (j := 4) rfl nd rfl rfl (by decide) rfl rfl (pa_cons (pe_callG G__law_roll (hr.down (by decide)) rfl T.m__law_roll T.F__law_roll.kp T.b__law_roll .nil pass0 (pa_cons (pv 0) (pa_cons pe_int pa_nil))) (pa_cons (pe_lst (pa_cons pe_non (pa_cons pe_int (pa_cons pe_int (pa_cons pe_int (pa_cons (pe_un un_neg pe_int) (pa_cons pe_bl (pa_cons pe_str (pa_cons pe_str (pa_cons pe_str (pa_cons pe_str (pa_cons pe_str (pa_cons (pe_tup pa_nil) (pa_cons (pe_lst pa_nil) (pa_cons pe_dnewK (pa_cons (pe_op op_powW pe_int pe_int) pa_nil)))))))))))))))) pa_nil)) (by rfl))
  (pss_cons (ps_if (PW.pt (pw_or (pt_cmpR op_eq (pv 3) pe_int (nomark _)) (pw_or1 (pt_cmpR (op_eqT1 hr) (pv 2) (pe_tup (pa_cons pe_str pa_nil)) (nomark _))))) (pss_one (ps_ret (pe_callG G__law_spoilt (hr.down (by decide)) rfl T.m__law_spoilt T.F__law_spoilt.kp T.b__law_spoilt .nil pass0 (pa_cons (pv 0) (pa_cons (pv 2) (pa_cons (pe_op op_cat (pv 4) (pe_lst (pa_cons pe_str (pa_cons pe_str (pa_cons pe_str pa_nil))))) pa_nil)))))) pss_nil)
  (pss_cons (ps_if (pt_cmpR op_eq (pv 3) pe_int (nomark _)) (pss_one (ps_ret (pe_tup (pa_cons (pe_ix ix_tup (pv 2) pe_int (fun _ _ => rfl)) (pa_cons (pe_callG G__law_one_of (hr.down (by decide)) rfl T.m__law_one_of T.F__law_one_of.kp T.b__law_one_of .nil pass0 (pa_cons (pv 0) (pa_cons (pe_op op_cat (pe_callTy (c_listD rfl) (by rfl) T.z_list (by decide +kernel) (pa_cons (pv 1) pa_nil)) (pe_lst (pa_cons pe_str (pa_cons pe_str (pa_cons pe_str (pa_cons pe_non (pa_cons pe_int (pa_cons (pe_tup pa_nil) pa_nil)))))))) pa_nil))) (pa_cons (pe_ix ix_tup (pv 2) pe_int (fun _ _ => rfl)) pa_nil)))))) pss_nil)
  (pss_cons (ps_if (pt_cmpR op_lt (pv 3) pe_int (nomark _)) (pss_one (ps_ret (pe_tup (pa_cons (pe_ix ix_tup (pv 2) pe_int (fun _ _ => rfl)) (pa_cons (pe_ix ix_tup (pv 2) pe_int (fun _ _ => rfl)) (pa_cons (pe_callG G__law_spoilt (hr.down (by decide)) rfl T.m__law_spoilt T.F__law_spoilt.kp T.b__law_spoilt .nil pass0 (pa_cons (pv 0) (pa_cons (pe_ix ix_tup (pv 2) pe_int (fun _ _ => rfl)) (pa_cons (pv 4) pa_nil)))) pa_nil)))))) pss_nil)
  (pss_one (ps_ret (pe_tup (pa_cons (pe_callG G__law_one_of (hr.down (by decide)) rfl T.m__law_one_of T.F__law_one_of.kp T.b__law_one_of .nil pass0 (pa_cons (pv 0) (pa_cons (pe_lst (pa_consts (by rfl))) pa_nil))) (pa_cons (pe_ix ix_tup (pv 2) pe_int (fun _ _ => rfl)) (pa_cons (pe_ix ix_tup (pv 2) pe_int (fun _ _ => rfl)) pa_nil))))))))))), ?_⟩
  iterate 9 walk_at "s1"
  refine ⟨d, 6, rfl, hd, by decide, by decide, fun way H1 h0 h1 dc1 => ?_⟩
  iterate 2 walk_at "s1"
  have hd1 := dc1.dice
  refine use_all (n := 15) (Pr := PrU d 20 4) (Same.refl H1) ?_ fun os G1 s1 len1 all1 => l_newL (by rw [len1, sizeLine_eq]; decide) fun o G2 no s2 eo => ?_
  · walk_at "ud"
  walk_at "s"
  have s12 := s1.trans s2
  have dc2 : Dc d H G2 := dc1.same s12
  have nod : o ≠ d := fun q => ((hd1.same s1).ne no) q.symm
  have dt2 := dt.ex hd (Ex.dc dc2)
  have pk2 := pairs_ex hd (Ex.dc dc2) pk
  have all2 : ∀ v ∈ os, PrU d 20 4 G2 v := fun v hv => pru_same _ _ _ s2 (all1 v hv)
  obtain ⟨us, rfl⟩ := tup_of_item it
  obtain ⟨a, xs, rfl, ea, dxs⟩ : ∃ a xs, x = .ref a ∧ G2 a = some (.tup xs) ∧ Dats d G2 xs us := by
    cases dt2 with
    | tup e r => exact ⟨_, _, rfl, e, r⟩
  have szU : Szs 33 1 us := sz_its sz
  have first : ∀ G (s : Same G2 G) (R : VK), (∀ y J, Dc d H J → PrU d 135 7 J y → R y J) → ∀ (L : Addr), G L = some (.lst (os ++ [.str "mark", .str "send", .str "item"])) → L ≠ d → sp__law_spoilt [V.ref d, V.ref a, V.ref L] G R (fun _ _ _ => False) := fun G s R hR L eL nL => by
    refine ⟨d, a, L, xs, os ++ [.str "mark", .str "send", .str "item"], us, 33, 20, 4, rfl, dc2.dice.same s, s _ _ ea, Dats.same s dxs, szU.up (Nat.le_refl _) (by decide), eL, nL, by rw [List.length_append]; exact Nat.lt_of_lt_of_le (by decide) (Nat.le_add_left _ _), by rw [List.length_append, len1]; decide, fun y hy => ?_, by decide, fun y J dcy hp => hR y J ((dc2.same s).trans dcy) ?_⟩
    · rcases List.mem_append.mp hy with h | h
      · exact pru_same _ _ _ s (all2 y h)
      · simp only [List.mem_cons, List.not_mem_nil, or_false] at h
        rcases h with rfl | rfl | rfl
        · exact ⟨_, .str _, sz_str (by decide +kernel) (by decide +kernel)⟩
        · exact ⟨_, .str _, sz_str (by decide +kernel) (by decide +kernel)⟩
        · exact ⟨_, .str _, sz_str (by decide +kernel) (by decide +kernel)⟩
    · obtain ⟨u, h1, h2⟩ := hp
      exact ⟨u, h1, h2.up (by decide) (by decide)⟩
  refine i_dec (fun z => ?_) (fun z => ?_)
  · refine i_t rfl ?_
    walk_at "s"
    refine l_newL (xs := [V.str "mark", .str "send", .str "item"]) (by show 3 ≤ sizeLine; decide) fun L0 G3 n3 s3 e3 => ?_
    refine l_cat (s3 _ _ eo) e3 (by rw [len1, sizeLine_eq]; decide) fun L G4 n4 s4 e4 => ?_
    walk_at "s"
    exact first G4 (s3.trans s4) _ (fun y J dc hp => k y J dc hp) L e4 (fun q => ((dc2.dice.same s3).ne n4) q.symm)
  walk_at "s"
  refine l_newT (xs := [V.str "mark"]) (by show 1 ≤ sizeLine; decide) fun l1 J1 nl1 t1 el1 => ?_
  refine ⟨d, l1, .tuple us, "mark", (Dat.tup ea dxs).same t1, rfl, tup_at el1, ?_⟩
  refine l_bl (i_b (fun im => ?_) (fun im => ?_))
  · walk_at "s"
    refine l_newL (xs := [V.str "mark", .str "send", .str "item"]) (by show 3 ≤ sizeLine; decide) fun L0 G3 n3 s3 e3 => ?_
    refine l_cat (s3 _ _ (t1 _ _ eo)) e3 (by rw [len1, sizeLine_eq]; decide) fun L G4 n4 s4 e4 => ?_
    walk_at "s"
    exact first G4 ((t1.trans s3).trans s4) _ (fun y J dc hp => k y J dc hp) L e4 (fun q => ((dc2.dice.same (t1.trans s3)).ne n4) q.symm)
  rcases item_cases it with im2 | ⟨_, w0, s0, as, n2, eus, q1, q2, q3, q4⟩
  · rw [im2] at im
    cases im
  injection eus with eus
  subst eus
  obtain ⟨xw, xc, xa, tw, tc, ta, rfl, e4, dw, dc3, da⟩ := dats3 dxs rfl
  injection e4 with e5 e6
  injection e6 with e6 e7
  injection e7 with e7 _
  subst e5 e6 e7
  obtain ⟨a2, vs2, rfl, ea2, ds2⟩ : ∃ a2 vs2, xa = .ref a2 ∧ G2 a2 = some (.tup vs2) ∧ Dats d G2 vs2 as := by
    cases da with
    | tup e r => exact ⟨_, _, rfl, e, r⟩
  have dcJ : Dc d H J1 := dc2.same t1
  have hdJ := dcJ.dice
  have eaJ := t1 _ _ ea
  have ew := isS_eq q1
  subst ew
  have szS : Sz 4 6 (.str "send") := sz_str (by decide +kernel) (by decide +kernel)
  have szA : Szs 33 4 as := by
    have h := szs_mem szU (.tuple as) (List.mem_cons_of_mem _ (List.mem_cons_of_mem _ List.mem_cons_self))
    exact (sz_its (m := 0) h).up (Nat.le_refl _) (by decide)
  have szC : Sz 8 6 (.str s0) := by
    by_cases hc : s0 ∈ b.map (·.1)
    · obtain ⟨e, he, rfl⟩ := List.mem_map.mp hc
      exact sz_name (answer_name (raw.nm e he))
    · rw [tk_none hc] at q2
      cases q2
  walk_at "s"
  refine i_dec (fun z1 => ?_) (fun z1 => ?_)
  · walk_at "s"
    refine l_ixT (tup_at eaJ) (i := 0) rfl ?_
    walk_at "s"
    obtain ⟨kvs, ep0, rows0⟩ := pk2
    have ep := t1 _ _ ep0
    have rows := rows0.same t1
    refine l_listK (Or.inl ep) fun q J2 nq t2 eq => ?_
    walk_at "s"
    refine l_newT (xs := []) (by show 0 ≤ sizeLine; decide) fun l2 J3 n3 t3 el2 => ?_
    walk_at "s"
    refine l_newL (xs := [V.str "x", .str "mark", .str "failed", .non, .int 0, .ref l2]) (by show 6 ≤ sizeLine; decide) fun l3 J4 n4 t4 el3 => ?_
    have ek : (kvs.map fun p => kV p.1) = (b.map (·.1)).map V.str := by
      have e := congrArg (List.map kV) rows.keys
      rw [List.map_map, List.map_map] at e
      exact e
    rw [ek] at eq
    have n6 := raw.n6
    refine l_cat ((t3.trans t4) _ _ eq) el3 (by rw [List.length_map, List.length_map, sizeLine_eq]; show _ + 6 ≤ _; omega) fun l4 J5 n5 t5 el4 => ?_
    walk_at "s"
    have t25 := (((t2.trans t3).trans t4).trans t5)
    have dc5 := dcJ.same t25
    refine ⟨d, l4, _, rfl, dc5.dice, SqL.of el4, (fun q => ((hdJ.same ((t2.trans t3).trans t4)).ne n5) q.symm), by rw [List.length_append]; exact Nat.lt_of_lt_of_le (show 0 < 6 by decide) (Nat.le_add_left _ _), by rw [List.length_append, List.length_map, List.length_map]; show _ + 6 < _; omega, fun y J6 hy dc6 => ?_⟩
    walk_at "s"
    have ea6 := (Ex.dc dc6).at dc5.dice (t25 _ _ eaJ) (fun _ z => by cases z) (fun _ z => by cases z)
    refine l_ixT (tup_at ea6) (i := 2) rfl ?_
    walk_at "s"
    refine l_newT (xs := [xw, y, .ref a2]) (by show 3 ≤ sizeLine; decide) fun r J7 n7 t7 e7 => ?_
    have py : PrU d 20 4 J5 y := by
      rcases List.mem_append.mp hy with h | h
      · obtain ⟨nm, hnm, rfl⟩ := List.mem_map.mp h
        obtain ⟨e, he, rfl⟩ := List.mem_map.mp hnm
        exact ⟨_, .str _, (sz_name (answer_name (raw.nm e he))).up (by decide) (Nat.le_refl _)⟩
      · simp only [List.mem_cons, List.not_mem_nil, or_false] at h
        rcases h with rfl | rfl | rfl | rfl | rfl | rfl
        · exact ⟨_, .str _, sz_str (by decide +kernel) (by decide +kernel)⟩
        · exact ⟨_, .str _, sz_str (by decide +kernel) (by decide +kernel)⟩
        · exact ⟨_, .str _, sz_str (by decide +kernel) (by decide +kernel)⟩
        · exact ⟨_, .non, sz_non.up (Nat.zero_le _) (Nat.le_refl _)⟩
        · exact ⟨_, .int 0, (sz_int (by decide)).up (Nat.zero_le _) (Nat.le_refl _)⟩
        · exact ⟨_, .tup ((t4.trans t5) _ _ el2) .nil, (sz_tup (m := 3) szs_nil (by decide)).up (Nat.zero_le _) (Nat.le_refl _)⟩
    obtain ⟨ty, dy, zy⟩ := pru_same _ _ _ t7 (pru_ex dc5.dice (Ex.dc dc6) py)
    have up : ∀ {v : V} {u : PyData}, Dat d G2 v u → Dat d J7 v u := fun h => ((h.same (t1.trans t25)).ex dc5.dice (Ex.dc dc6)).same t7
    refine k _ J7 ((dc5.trans dc6).same t7) ⟨_, .tup e7 (.cons (up dw) (.cons dy (.cons (up da) .nil))), (sz_tup (szs_cons szS (szs_cons (zy.up (Nat.le_refl _) (by decide)) (szs_cons ((sz_tup szA (by decide)).up (Nat.le_refl _) (by decide)) szs_nil))) (by decide)).up (by decide) (by decide)⟩
  walk_at "s"
  refine i_dec (fun z2 => ?_) (fun z2 => ?_)
  · walk_at "s"
    refine l_ixT (tup_at eaJ) (i := 0) rfl ?_
    walk_at "s"
    refine l_ixT (tup_at eaJ) (i := 1) rfl ?_
    walk_at "s"
    refine l_ixT (tup_at eaJ) (i := 2) (v := .ref a2) rfl ?_
    walk_at "s"
    refine ⟨d, a2, o, vs2, os, as, 33, 20, 4, rfl, hdJ, t1 _ _ ea2, Dats.same t1 ds2, szA, t1 _ _ eo, nod, by rw [len1]; decide, by rw [len1]; decide, fun y hy => pru_same _ _ _ t1 (all2 y hy), by decide, fun y J2 dcy hp => ?_⟩
    walk_at "s"
    refine l_newT (xs := [xw, xc, y]) (by show 3 ≤ sizeLine; decide) fun r J7 n7 t7 e7 => ?_
    obtain ⟨ty, dy, zy⟩ := pru_same _ _ _ t7 hp
    have up : ∀ {v : V} {u : PyData}, Dat d G2 v u → Dat d J7 v u := fun h => ((h.same t1).ex hdJ (Ex.dc dcy)).same t7
    exact k _ J7 ((dcJ.trans dcy).same t7) ⟨_, .tup e7 (.cons (up dw) (.cons (up dc3) (.cons dy .nil))), (sz_tup (szs_cons szS (szs_cons szC (szs_cons zy szs_nil))) (by decide)).up (by decide) (by decide)⟩
  · walk_at "s"
    refine l_newL (xs := [V.str "mark", .str "read", .str "Send", .non, .int 1]) (by show 5 ≤ sizeLine; decide) fun l3 J4 n4 t4 el3 => ?_
    walk_at "s"
    have dc4 := dcJ.same t4
    refine ⟨d, l3, _, rfl, dc4.dice, SqL.of el3, (fun q => (hdJ.ne n4) q.symm), by show 0 < 5; decide, by show 5 < 1000000; decide, fun y J6 hy dc6 => ?_⟩
    walk_at "s"
    have ea6 := (Ex.dc dc6).at dc4.dice (t4 _ _ eaJ) (fun _ z => by cases z) (fun _ z => by cases z)
    refine l_ixT (tup_at ea6) (i := 1) rfl ?_
    walk_at "s"
    refine l_ixT (tup_at ea6) (i := 2) rfl ?_
    walk_at "s"
    refine l_newT (xs := [y, xc, .ref a2]) (by show 3 ≤ sizeLine; decide) fun r J7 n7 t7 e7 => ?_
    have py : PrU d 20 4 J7 y := by
      simp only [List.mem_cons, List.not_mem_nil, or_false] at hy
      rcases hy with rfl | rfl | rfl | rfl | rfl
      · exact ⟨_, .str _, sz_str (by decide +kernel) (by decide +kernel)⟩
      · exact ⟨_, .str _, sz_str (by decide +kernel) (by decide +kernel)⟩
      · exact ⟨_, .str _, sz_str (by decide +kernel) (by decide +kernel)⟩
      · exact ⟨_, .non, sz_non.up (Nat.zero_le _) (Nat.le_refl _)⟩
      · exact ⟨_, .int 1, (sz_int (by decide)).up (Nat.zero_le _) (Nat.le_refl _)⟩
    obtain ⟨ty, dy, zy⟩ := py
    have up : ∀ {v : V} {u : PyData}, Dat d G2 v u → Dat d J7 v u := fun h => ((h.same (t1.trans t4)).ex dc4.dice (Ex.dc dc6)).same t7
    exact k _ J7 ((dc4.trans dc6).same t7) ⟨_, .tup e7 (.cons dy (.cons (up dc3) (.cons (up da) .nil))), (sz_tup (szs_cons (zy.up (Nat.le_refl _) (by decide)) (szs_cons szC (szs_cons ((sz_tup szA (by decide)).up (Nat.le_refl _) (by decide)) szs_nil))) (by decide)).up (by decide) (by decide)⟩
def sp__law_changed_row : Sp := fun vs H Q _ => ∃ (d a o : Addr) (xs : List V) (ts : List PyData) (ms : List Str), vs = [.ref d, .ref a, .ref o] ∧ DiceAt H d ∧ H a = some (.tup xs) ∧ Dats d H xs ts ∧ Szs 63 4 ts ∧ H o = some (.lst (ms.map V.str)) ∧ ms.length ≤ 100 ∧ (∀ s ∈ ms, nameB s = true) ∧ ∀ y G, Dc d H G → PrU d 210 6 G y → Q y G
theorem ok__law_changed_row (T : Txt K mg) : FnG P w K mg base CX0 4 T.a__law_changed_row T.d__law_changed_row ["dice", "row", "more"] sp__law_changed_row := by
  have G__law_spoilt : FnG P w K mg base CX0 3 T.a__law_spoilt T.d__law_spoilt ["dice", "value", "odd"] sp__law_spoilt := ok__law_spoilt T
  refine okG T.F__law_changed_row sc__law_changed_row (fun vs H Q E h => ?_) (fun cdv A fs s H vs Q E hr h => ?_)
  · obtain ⟨d, a, o, xs, ts, ms, rfl, _⟩ := h
    rfl
  obtain ⟨d, a, o, xs, ts, ms, rfl, hd, ea, ds, sz, eo, lm, hm, k⟩ := h
  have nd := sc__law_changed_row.nd
  refine ⟨_, ((pss_cons (ps_set (i := 3) nd rfl (Or.inl rfl) (pe_op op_cat (pe_lst (pa_cons pe_str (pa_cons pe_str (pa_cons pe_str (pa_cons pe_str (pa_cons pe_str (pa_cons pe_str (pa_cons pe_non (pa_cons pe_int (pa_cons pe_bl (pa_cons (pe_tup (pa_cons pe_str pa_nil)) (pa_cons (pe_lst pa_nil) pa_nil)))))))))))) (pv 2)))
  (pss_one (ps_ret (pe_callG G__law_spoilt (hr.down (by decide)) rfl T.m__law_spoilt T.F__law_spoilt.kp T.b__law_spoilt .nil pass0 (pa_cons (pv 0) (pa_cons (pv 1) (pa_cons (pv 3) pa_nil)))))))), ?_⟩
  iterate 4 walk_at "s1"
  refine use_all (n := 11) (Pr := PrU d 20 4) (Same.refl H) ?_ fun os G1 s1 len1 all1 => l_newL (by rw [len1, sizeLine_eq]; decide) fun o1 G2 n2 s2 eo1 => ?_
  · walk_at "ud"
  walk_at "s"
  have s12 := s1.trans s2
  refine l_cat eo1 (s12 _ _ eo) (by rw [len1, List.length_map, sizeLine_eq]; omega) fun L G3 n3 s3 eL => ?_
  walk_at "s"
  have s13 := s12.trans s3
  refine ⟨d, a, L, xs, os ++ ms.map V.str, ts, 63, 20, 4, rfl, hd.same s13, s13 _ _ ea, Dats.same s13 ds, sz, eL, (fun q => ((hd.same s12).ne n3) q.symm), by rw [List.length_append, len1]; omega, by rw [List.length_append, len1, List.length_map]; omega, fun y hy => ?_, by decide, fun y J dcy hp => k y J (((Dc.refl hd).same s13).trans dcy) hp⟩
  rcases List.mem_append.mp hy with h | h
  · exact pru_same _ _ _ (s2.trans s3) (all1 y h)
  · obtain ⟨nm, hnm, rfl⟩ := List.mem_map.mp h
    exact ⟨_, .str _, (sz_name (hm nm hnm)).up (by decide) (Nat.le_refl _)⟩
end
/-! ### what a call comes to -/
section
variable {w : World} {K : PySem.W.Frag} {mg : Str → Option Value} {base : Heap}
def csX (T : Txt K mg) : List Addr := [T.c_AheadError, T.c_InvalidBook, T.c_InvalidOperation, T.c_UnknownName]
theorem exm_one (T : Txt K mg) {i j : Nat} {c d : Addr} {r : List (Option Bool)} {b : Bool} (hc : (csX T)[i]? = some c) (hd : (csX T)[j]? = some d) (hr : (exTab K (csX T))[i]? = some r) (hb : r[j]? = some (some b)) : PySem.W.exmAny K (.ref c) [.ref d] = some b := by
  have h : PySem.W.exmOne K (.ref c) (.ref d) = some b := exTab_at rfl hc hd hr hb
  unfold PySem.W.exmAny
  rw [h]
  first | rfl | (cases b <;> rfl)
theorem tab_row (T : Txt K mg) (i : Nat) : (exTab K (csX T))[i]? = ([[some true, some false, some false, some false], [some true, some true, some false, some false], [some true, some false, some true, some false], [some false, some false, some false, some true]] : List (List (Option Bool)))[i]? := by
  rw [show csX T = [T.c_AheadError, T.c_InvalidBook, T.c_InvalidOperation, T.c_UnknownName] from rfl, T.tabE]
def RefE (T : Txt K mg) (Q : VK) : XK := fun cls _ H => cls = .ref T.c_InvalidBook ∧ ∀ G, Same H G → Q (.bl true) G
def TTref (T : Txt K mg) : (XK → Hp → VK → Prop) → Hp → VK → Prop := fun tl H Q => tl (RefE T Q) H fun _ G => Q (.bl false) G
theorem gives_ref {X : Cx} (T : Txt X.K X.mg) (cdv : Value) (q : Str) (k : Nat) : GivesG X ["call"] "_law_is_refused" (defScope s__law_is_refused) T.a__law_is_refused cdv (defBody s__law_is_refused) "call" q k (TTref T) := by
  intro f c' s H Q tl room act co want
  have nd := sc__law_is_refused.nd
  refine ⟨_, pss_cons (ps_tryX (X := (cxOf CX0 X.prog X.w X.K X.mg X.base ["call"] "_law_is_refused" (defScope s__law_is_refused) T.a__law_is_refused cdv X.A X.stack s H (fun _ _ _ => False)).nox)
    (tb := fun W D σ H => ∃ Ech : XK, (∀ cls d (τ : L2.St) G, τ.length = 1 → Ech cls d G → W cls d τ G) ∧ σ[0]? = some (some (.ref f)) ∧ H c' = some (LamX.CodeO c' q) ∧ tl Ech H fun _ G => D.nx σ G) rfl rfl nd tk0 (fun W pn xe tk _ => ?_)
    (by exact (HdsX.only (TestE.one ⟨by rfl, by decide, Or.inl T.e_InvalidBook.m⟩) (fun a pn => by exact (pss_one (ps_ret pe_bl))) HdsX.nil))) (pss_one (ps_ret pe_bl)), ?_⟩
  · constructor
    intro pins s' σ H' D I h'
    obtain ⟨Ech, hW, h1, h2, h3⟩ := h'
    exact (pss_one (ps_expr (act W pn xe Ech _ _ tk hW))).run pins s' σ H' D I ⟨h1, h2, h3⟩
  · refine ⟨RefE T Q, fun cls d τ G hl hE => ?_, rfl, co, want⟩
    obtain ⟨rfl, h⟩ := hE
    refine ⟨true, exm_one T (i := 1) (j := 1) rfl rfl (tab_row T 1) rfl, fun _ a pn na => ?_, fun z => Bool.noConfusion z⟩
    exact h _ (Same.upd0 na)
theorem gives_refK (T : Txt K mg) {X : Cx} (e1 : X.K = K) (e2 : X.mg = mg) (cdv : Value) (q : Str) (k : Nat) : GivesG X ["call"] "_law_is_refused" (defScope s__law_is_refused) T.a__law_is_refused cdv (defBody s__law_is_refused) "call" q k (TTref T) := by
  subst e1
  subst e2
  exact gives_ref T cdv q k
end
section
variable {w : World} {K : PySem.W.Frag} {mg : Str → Option Value} {base : Heap} {T : Txt K mg} {H G : Hp} {a : Addr} {b : PB}
theorem pairV_ext {v : V} {t : Nat} {as : List Str} (s : LamX.ExtN H G) (h : PairV H v t as) : PairV G v t as := by
  obtain ⟨pr, an, e, h1, h2⟩ := h
  exact ⟨pr, an, e, s _ _ h1 (fun _ z => by cases z), s _ _ h2 (fun _ z => by cases z)⟩
theorem outV_ext {v : V} {as : List Str} (s : LamX.ExtN H G) (h : OutV H v as) : OutV G v as := by
  obtain ⟨t, e, h1⟩ := h
  exact ⟨t, e, s _ _ h1 (fun _ z => by cases z)⟩
theorem rows_ext {kvs : List (Key × V)} (s : LamX.ExtN H G) (r : RowsAt H kvs b) : RowsAt G kvs b := Paired.mono (fun _ _ a => ⟨a.1, pairV_ext s a.2⟩) r
theorem BookAt.ext (s : LamX.ExtN H G) (h : BookAt T H a b) : BookAt T G a b := by
  obtain ⟨dx, p, o, kvs, ows, h1, h2, h3, h4, h5, h6⟩ := h
  exact ⟨dx, p, o, kvs, ows, s _ _ h1 (fun _ z => by cases z), s _ _ h2 (fun _ z => by cases z), s _ _ h3 (fun _ z => by cases z), rows_ext s h4, Paired.mono (fun _ _ a => ⟨a.1, outV_ext s a.2⟩) h5, h6⟩
theorem pairs_ext {p : Addr} (s : LamX.ExtN H G) (h : PairsAt H p b) : PairsAt G p b := by
  obtain ⟨kvs, h1, h2⟩ := h
  exact ⟨kvs, s _ _ h1 (fun _ z => by cases z), rows_ext s h2⟩
theorem s_lam {Tb : List (Addr × Str)} {TT : (XK → Hp → VK → Prop) → Hp → VK → Prop} {t : XK → TE} {σ : L2.St} {Q : VK} (tabs : LamX.Tabs Tb H) (q : ∀ H1, LamX.ExtN H H1 → LamX.Tabs Tb H1 → TT (fun E H' Q' => t E σ H' Q') H1 Q) : LamX.tLam Tb TT t σ H Q := ⟨tabs, q⟩
theorem l_ref {tl : XK → Hp → VK → Prop} {Q : VK} (q : tl (RefE T Q) H fun _ G => Q (.bl false) G) : TTref T tl H Q := q
theorem BookAt.ins (h : BookAt T H a b) : ∃ dx fs, H a = some (.ins T.c_Book dx fs) ∧ ∀ m : Str, m ≠ "_pairs" → m ≠ "_outcomes" → fs.lookup m = none := by
  obtain ⟨dx, p, o, kvs, ows, h1, _⟩ := h
  refine ⟨dx, _, h1, fun m n1 n2 => ?_⟩
  have e1 : (m == ("_pairs" : Str)) = false := beq_eq_false_iff_ne.mpr n1
  have e2 : (m == ("_outcomes" : Str)) = false := beq_eq_false_iff_ne.mpr n2
  simp only [List.lookup, e1, e2]
end
section
variable {w : World} {K : PySem.W.Frag} {mg : Str → Option Value} {base : Heap}
structure ExT (T : Txt K mg) (d : Addr) (H G : Hp) : Prop where
  x : Ex d H G
  t : LamX.Tabs T.tabs H → LamX.Tabs T.tabs G
theorem ExT.refl {T : Txt K mg} {d : Addr} {H : Hp} (h : DiceAt H d) : ExT T d H H := ⟨Ex.refl h, id⟩
theorem ExT.s {T : Txt K mg} {d : Addr} {H G J : Hp} (e : ExT T d H G) (s : Same G J) : ExT T d H J := ⟨e.x.trans (Ex.same e.x.1 s), fun h => (e.t h).ext s⟩
theorem ExT.d {T : Txt K mg} {d : Addr} {H G J : Hp} (e : ExT T d H G) (c : Dc d G J) : ExT T d H J := ⟨e.x.trans (Ex.dc c), fun h => tabs_dc e.x.1 c.keep (e.t h)⟩
theorem ExT.n {T : Txt K mg} {d : Addr} {H G J : Hp} (e : ExT T d H G) (c : LamX.ExtN G J) (t : LamX.Tabs T.tabs J) : ExT T d H J := ⟨e.x.trans (Ex.ext e.x.1 c), fun _ => t⟩
theorem ExT.u {T : Txt K mg} {d L : Addr} {A J J2 : Hp} {xs ys : List V} (e : ExT T d A J) (n : J L = none) (e2 : ExT T d A J2) (h : J2 L = some (.lst xs)) : ExT T d A (upd J2 L (.lst ys)) := by
  have nd : L ≠ d := fun q => (e.x.1.ne n) q.symm
  refine ⟨⟨?_, fun c o nc ec nt => ?_⟩, fun ht => tabs_lst (e2.t ht) h⟩
  · obtain ⟨q1, q2, q3, q4⟩ := e2.x.1
    exact ⟨q1, q2, q3, by rw [upd_ne (Ne.symm nd)]; exact q4⟩
  · have cl : c ≠ L := fun q => by
      have := e.x.2 c o nc ec nt
      rw [q, n] at this
      cases this
    rw [upd_ne cl]
    exact e2.x.2 c o nc ec nt
theorem s_dnew {σ : L2.St} {H : Hp} {Q : VK} (q : ∀ p G, H p = none → Same H G → G p = some (.dK []) → Q (.ref p) G) : tDNewK σ H Q := fun p n => q p _ n (Same.upd0 n) upd_same
/-- a value that is no book -/
def Kd (d : Addr) (G : Hp) (y : V) : Prop := (∃ t, Dat d G y t) ∨ ∃ q kvs, y = .ref q ∧ G q = some (.dK kvs)
theorem kd_ex {d : Addr} {G J : Hp} {y : V} (h : DiceAt G d) (x : Ex d G J) (k : Kd d G y) : Kd d J y := by
  rcases k with ⟨t, k⟩ | ⟨q, kvs, rfl, k⟩
  · exact Or.inl ⟨t, k.ex h x⟩
  · exact Or.inr ⟨q, kvs, rfl, x.at h k (fun _ z => by cases z) (fun _ z => by cases z)⟩
theorem kd_kind {d : Addr} {G : Hp} {y : V} (k : Kd d G y) : KindAt K G y := by
  rcases k with ⟨t, k⟩ | ⟨q, kvs, rfl, k⟩
  · cases k with
    | non => exact kind_non
    | bl b => exact kind_bl
    | int i => exact kind_int
    | str s => exact kind_str
    | lst e n r => exact kind_lst e
    | tup e r => exact kind_tup e
    | dct e r => exact kind_dK e
  · exact kind_dK k
def sp_right (T : Txt K mg) : Sp := fun vs H Q _ => ∃ d : Addr, vs = [.ref d] ∧ DiceAt H d ∧ LamX.Tabs T.tabs H ∧ ∀ G, Ex d H G → LamX.Tabs T.tabs G → Q (.bl true) G
theorem ok__law_right (T : Txt K mg) (TB : LamX.TabB base mg T.co__law_right T.tb__law_right) : FnG prog0 w K mg base CX0 22 T.a__law_right T.d__law_right ["dice"] (sp_right T) := by
  have G_Book_of : FnG prog0 w K mg base CX0 11 T.a_Book_of T.d_Book_of ["cls", "commands"] (sp_of T) := ok_Book_of T
  have G_is_item : FnG prog0 w K mg base (L2.CX prog0 w) 5 T.a_is_item T.d_is_item ["book", "value"] (sp_is_item T) := ok_is_item T
  have G_is_items : FnG prog0 w K mg base (L2.CX prog0 w) 5 T.a_is_items T.d_is_items ["book", "value"] (sp_is_items T) := ok_is_items T
  have G_is_row : FnG prog0 w K mg base (L2.CX prog0 w) 5 T.a_is_row T.d_is_row ["book", "value"] (sp_is_row T) := ok_is_row T
  have G__law_pairs : FnG prog0 w K mg base CX0 5 T.a__law_pairs T.d__law_pairs ["dice", "most", "answers"] sp__law_pairs := ok__law_pairs T
  have G__law_names : FnG prog0 w K mg base CX0 4 T.a__law_names T.d__law_names ["dice", "size"] sp__law_names := ok__law_names T
  have G__law_roll : FnG prog0 w K mg base CX0 1 T.a__law_roll T.d__law_roll ["dice", "total"] sp__law_roll := ok__law_roll T
  have G__law_one_of : FnG prog0 w K mg base CX0 2 T.a__law_one_of T.d__law_one_of ["dice", "items"] (sp__law_one_of K) := ok__law_one_of T
  have G__law_odd : FnG prog0 w K mg base CX0 3 T.a__law_odd T.d__law_odd ["dice"] sp__law_odd := ok__law_odd T
  have G__law_spoilt : FnG prog0 w K mg base CX0 3 T.a__law_spoilt T.d__law_spoilt ["dice", "value", "odd"] sp__law_spoilt := ok__law_spoilt T
  have G__law_all_outcomes : FnG prog0 w K mg base CX0 1 T.a__law_all_outcomes T.d__law_all_outcomes ["pairs"] sp__law_all_outcomes := ok__law_all_outcomes T
  have G__law_drawn_items : FnG prog0 w K mg base CX0 5 T.a__law_drawn_items T.d__law_drawn_items ["dice", "pairs", "words", "many"] sp__law_drawn_items := ok__law_drawn_items T
  have G__law_changed_item : FnG prog0 w K mg base CX0 4 T.a__law_changed_item T.d__law_changed_item ["dice", "pairs", "item"] sp__law_changed_item := ok__law_changed_item T
  have G__law_changed_row : FnG prog0 w K mg base CX0 4 T.a__law_changed_row T.d__law_changed_row ["dice", "row", "more"] sp__law_changed_row := ok__law_changed_row T
  have G__law_is_item : FnG prog0 w K mg base CX0 3 T.a__law_is_item T.d__law_is_item ["pairs", "value"] sp_item_with := ok__law_is_item T
  have G__law_are_items : FnG prog0 w K mg base CX0 4 T.a__law_are_items T.d__law_are_items ["pairs", "value"] sp__law_are_items := ok__law_are_items T
  have G__law_is_row : FnG prog0 w K mg base CX0 2 T.a__law_is_row T.d__law_is_row ["pairs", "value"] sp__law_is_row := ok__law_is_row T
  have hin := T.hin__law_right
  have hun := T.hun__law_right
  have HP := @PassesOwn.never
  refine okGL T.F__law_right T.l__law_right sc__law_right (fun vs H Q E h => ?_) (fun A fs s H vs Q E hr h => ?_)
  · obtain ⟨d, rfl, _⟩ := h
    rfl
  obtain ⟨d, rfl, hd, tabs, k⟩ := h
  have nd := sc__law_right.nd
  refine ⟨_, ((pss_cons (ps_par (i := 1) (j := 2) rfl nd rfl rfl (by decide) rfl rfl (pa_cons (pe_callG G__law_pairs (hr.down (by decide)) rfl T.m__law_pairs T.F__law_pairs.kp T.b__law_pairs .nil pass0 (pa_cons (pv 0) (pa_cons pe_int (pa_cons pe_int pa_nil)))) (pa_cons (pe_callG G__law_names (hr.down (by decide)) rfl T.m__law_names T.F__law_names.kp T.b__law_names .nil pass0 (pa_cons (pv 0) (pa_cons pe_int pa_nil))) pa_nil)) (by rfl))
  (pss_cons (ps_asg (pe_tup (pa_cons (pe_clsG (pe_glob (v := .ref T.c_Book) rfl T.m_Book rfl) T.o_Book.rd T.P_Book_of G_Book_of (hr.down (by decide)) T.b_Book_of pass0 (pa_cons (pv 1) pa_nil)) (pa_cons (pe_callG G__law_all_outcomes (hr.down (by decide)) rfl T.m__law_all_outcomes T.F__law_all_outcomes.kp T.b__law_all_outcomes .nil pass0 (pa_cons (pv 1) pa_nil)) pa_nil))) (pg_tup (by rfl) (pgs_cons (pg_name (i := 3) nd rfl (Or.inr rfl)) (pgs_cons (pg_name (i := 4) nd rfl (Or.inr rfl)) pgs_nil))))
  (pss_cons (ps_set (i := 5) nd rfl (Or.inl rfl) (pe_callG G__law_drawn_items (hr.down (by decide)) rfl T.m__law_drawn_items T.F__law_drawn_items.kp T.b__law_drawn_items .nil pass0 (pa_cons (pv 0) (pa_cons (pv 1) (pa_cons (pv 2) (pa_cons (pe_callG G__law_roll (hr.down (by decide)) rfl T.m__law_roll T.F__law_roll.kp T.b__law_roll .nil pass0 (pa_cons (pv 0) (pa_cons pe_int pa_nil))) pa_nil))))))
  (pss_cons (ps_if (PW.pt (pw_or (pt_cmpR op_notBl (pe_callG G_is_items (hr.down (by decide)) rfl T.m_is_items T.F_is_items.kp T.b_is_items .nil passN (pa_cons (pv 3) (pa_cons (pv 5) pa_nil))) pe_bl (nomark _)) (pw_or1 (pt_cmpR (op_neL0 hr) (pe_lc (own := [("one", 18)]) rfl nd (pi_tup (pv 5)) (blkOk_by (own := [("one", 18)]) (N := ["dice", "pairs", "words", "book", "outcomes", "items", "turn", "row", "others", "at", "some", "before", "told", "due", "bent", "mixed", "odd", "rows", "one"]) (sc := defScope s__law_right) (by decide +kernel)) (fun _ _ _ _ _ => pg_name (i := 18) nd rfl (Or.inl rfl)) (fun _ _ _ _ _ => by exact (pts_one (pt_cmpR op_notBl (pe_callG G_is_item (hr.down (by decide)) rfl T.m_is_item T.F_is_item.kp T.b_is_item .nil passN (pa_cons (pv 3) (pa_cons (pv 18) pa_nil))) pe_bl (nomark _)))) (fun _ _ _ _ _ => by exact (pv 18))) (pe_lst pa_nil) (nomark _))))) (pss_one (ps_ret pe_bl)) pss_nil)
  (pss_cons (ps_set (i := 7) nd rfl (Or.inl rfl) (pe_callTy c_tuple (by rfl) T.z_tuple (by decide +kernel) (pa_cons (pe_lc (own := [("turn", 6)]) rfl nd (pi_range1 rfl T.z_range (pa_cons (pe_callG G__law_roll (hr.down (by decide)) rfl T.m__law_roll T.F__law_roll.kp T.b__law_roll .nil pass0 (pa_cons (pv 0) (pa_cons pe_int pa_nil))) pa_nil)) (blkOk_by (own := [("turn", 6)]) (N := ["dice", "pairs", "words", "book", "outcomes", "items", "turn", "row", "others", "at", "some", "before", "told", "due", "bent", "mixed", "odd", "rows", "one"]) (sc := defScope s__law_right) (by decide +kernel)) (fun _ _ _ _ _ => pg_name (i := 6) nd rfl (Or.inl rfl)) (fun _ _ _ _ _ => pts_nil) (fun _ _ _ _ _ => by exact (pe_callG G__law_one_of (hr.down (by decide)) rfl T.m__law_one_of T.F__law_one_of.kp T.b__law_one_of .nil pass0 (pa_cons (pv 0) (pa_cons (pv 4) pa_nil))))) pa_nil)))
  (pss_cons (ps_set (i := 8) nd rfl (Or.inl rfl) (pe_op op_cat (pe_callG G__law_all_outcomes (hr.down (by decide)) rfl T.m__law_all_outcomes T.F__law_all_outcomes.kp T.b__law_all_outcomes .nil pass0 (pa_cons (pe_callG G__law_pairs (hr.down (by decide)) rfl T.m__law_pairs T.F__law_pairs.kp T.b__law_pairs .nil pass0 (pa_cons (pv 0) (pa_cons pe_int (pa_cons pe_int pa_nil)))) pa_nil)) (pe_callTy (c_listD rfl) (by rfl) T.z_list (by decide +kernel) (pa_cons (pv 1) pa_nil))))
  (pss_cons (ps_for HP rfl (pi_range1 rfl T.z_range (pa_cons pe_int pa_nil)) (pg_name (i := 6) nd rfl (Or.inl rfl)) (pss_cons (ps_set (i := 14) nd rfl (Or.inr rfl) (pe_callG G__law_changed_item (hr.down (by decide)) rfl T.m__law_changed_item T.F__law_changed_item.kp T.b__law_changed_item .nil pass0 (pa_cons (pv 0) (pa_cons (pv 1) (pa_cons (pe_callG G__law_one_of (hr.down (by decide)) rfl T.m__law_one_of T.F__law_one_of.kp T.b__law_one_of .nil pass0 (pa_cons (pv 0) (pa_cons (pe_op op_cat (pe_callTy c_list (by rfl) T.z_list (by decide +kernel) (pa_cons (pv 5) pa_nil)) (pe_lst (pa_cons (pe_tup (pa_cons pe_str pa_nil)) pa_nil))) pa_nil))) pa_nil)))))
  (pss_cons (ps_set (i := 9) nd rfl (Or.inl rfl) (pe_callG G__law_roll (hr.down (by decide)) rfl T.m__law_roll T.F__law_roll.kp T.b__law_roll .nil pass0 (pa_cons (pv 0) (pa_cons (pe_op op_add (pe_callB c_len (by rfl) T.z_len (by decide +kernel) (pa_cons (pv 5) pa_nil)) pe_int) pa_nil))))
  (pss_cons (ps_set (i := 10) nd rfl (Or.inl rfl) (pe_op op_catA (pe_op op_catA (pe_slice sl_tupA (pv 5) po_none (po_some (pv 9))) (pe_tup (pa_cons (pv 14) pa_nil))) (pe_slice sl_tupA (pv 5) (po_some (pe_op op_add (pv 9) (pe_callG G__law_roll (hr.down (by decide)) rfl T.m__law_roll T.F__law_roll.kp T.b__law_roll .nil pass0 (pa_cons (pv 0) (pa_cons pe_int pa_nil))))) po_none)))
  (pss_cons (ps_set (i := 15) nd rfl (Or.inr rfl) (pe_callG G__law_one_of (hr.down (by decide)) rfl T.m__law_one_of T.F__law_one_of.kp T.b__law_one_of .nil pass0 (pa_cons (pv 0) (pa_cons (pe_lst (pa_cons (pv 10) (pa_cons (pe_callG G__law_spoilt (hr.down (by decide)) rfl T.m__law_spoilt T.F__law_spoilt.kp T.b__law_spoilt .nil pass0 (pa_cons (pv 0) (pa_cons (pv 5) (pa_cons (pe_lst (pa_cons (pe_tup (pa_cons pe_str pa_nil)) (pa_cons (pv 14) pa_nil))) pa_nil)))) (pa_cons (pe_callG G__law_odd (hr.down (by decide)) rfl T.m__law_odd T.F__law_odd.kp T.b__law_odd .nil pass0 (pa_cons (pv 0) pa_nil)) pa_nil)))) pa_nil))))
  (pss_cons (ps_set (i := 17) nd rfl (Or.inr rfl) (pe_callG G__law_one_of (hr.down (by decide)) rfl T.m__law_one_of T.F__law_one_of.kp T.b__law_one_of .nil pass0 (pa_cons (pv 0) (pa_cons (pe_lst (pa_cons (pv 7) (pa_cons (pe_callG G__law_changed_row (hr.down (by decide)) rfl T.m__law_changed_row T.F__law_changed_row.kp T.b__law_changed_row .nil pass0 (pa_cons (pv 0) (pa_cons (pv 7) (pa_cons (pv 8) pa_nil)))) (pa_cons (pe_callG G__law_odd (hr.down (by decide)) rfl T.m__law_odd T.F__law_odd.kp T.b__law_odd .nil pass0 (pa_cons (pv 0) pa_nil)) pa_nil)))) pa_nil))))
  (pss_cons (ps_set (i := 11) nd rfl (Or.inl rfl) (pe_callB (call_reprU hr) (by rfl) T.z_repr (by decide +kernel) (pa_cons (pe_lst (pa_cons (pv 14) (pa_cons (pv 15) (pa_cons (pv 17) pa_nil)))) pa_nil)))
  (pss_cons (ps_set (i := 12) nd rfl (Or.inl rfl) (pe_lst (pa_cons (pe_callG G_is_item (hr.down (by decide)) rfl T.m_is_item T.F_is_item.kp T.b_is_item .nil passN (pa_cons (pv 3) (pa_cons (pv 14) pa_nil))) (pa_cons (pe_callG G_is_items (hr.down (by decide)) rfl T.m_is_items T.F_is_items.kp T.b_is_items .nil passN (pa_cons (pv 3) (pa_cons (pv 15) pa_nil))) (pa_cons (pe_callG G_is_row (hr.down (by decide)) rfl T.m_is_row T.F_is_row.kp T.b_is_row .nil passN (pa_cons (pv 3) (pa_cons (pv 17) pa_nil))) pa_nil)))))
  (pss_cons (ps_set (i := 13) nd rfl (Or.inl rfl) (pe_lst (pa_cons (pe_callG G__law_is_item (hr.down (by decide)) rfl T.m__law_is_item T.F__law_is_item.kp T.b__law_is_item .nil pass0 (pa_cons (pv 1) (pa_cons (pv 14) pa_nil))) (pa_cons (pe_callG G__law_are_items (hr.down (by decide)) rfl T.m__law_are_items T.F__law_are_items.kp T.b__law_are_items .nil pass0 (pa_cons (pv 1) (pa_cons (pv 15) pa_nil))) (pa_cons (pe_callG G__law_is_row (hr.down (by decide)) rfl T.m__law_is_row T.F__law_is_row.kp T.b__law_is_row .nil pass0 (pa_cons (pv 1) (pa_cons (pv 17) pa_nil))) pa_nil)))))
  (pss_cons (ps_if (PW.pt (pw_or (pt_cmpR op_ne (pe_callB (call_reprD hr) (by rfl) T.z_repr (by decide +kernel) (pa_cons (pv 12) pa_nil)) (pe_callB (call_reprD hr) (by rfl) T.z_repr (by decide +kernel) (pa_cons (pv 13) pa_nil)) (nomark _)) (pw_or1 (pt_cmpR op_ne (pe_callB (call_reprU hr) (by rfl) T.z_repr (by decide +kernel) (pa_cons (pe_lst (pa_cons (pv 14) (pa_cons (pv 15) (pa_cons (pv 17) pa_nil)))) pa_nil)) (pv 11) (nomark _))))) (pss_one (ps_ret pe_bl)) pss_nil)
  (pss_cons (ps_set (i := 16) nd rfl (Or.inr rfl) (pe_callG G__law_one_of (hr.down (by decide)) rfl T.m__law_one_of T.F__law_one_of.kp T.b__law_one_of .nil pass0 (pa_cons (pv 0) (pa_cons (pe_lst (pa_cons pe_non (pa_cons pe_int (pa_cons pe_str (pa_cons (pe_tup pa_nil) (pa_cons (pe_lst pa_nil) (pa_cons pe_dnewK (pa_cons (pv 1) (pa_cons pe_bl pa_nil))))))))) pa_nil))))
  (pss_cons (ps_set (i := 12) nd rfl (Or.inl rfl) (pe_lst (pa_cons (pe_lamF (k := 12) (Ng := ["call"]) rfl T.m__law_is_refused T.F__law_is_refused T.b__law_is_refused sc__law_is_refused rfl (Or.inl rfl) (fun cdv => gives_refK T rfl rfl cdv _ _) TB rfl hin hun (hr.down (by decide)) (LamX.lamS_by (by show LamX.lamSB (defScope s__law_right) _ = true; decide +kernel)) rfl (fun _ _ _ _ _ => rfl) (fun A outer s H E f c hr => by exact (pe_callG G_is_item (hr.down (by decide)) rfl T.m_is_item T.F_is_item.kp T.b_is_item .nil (pxE lam_takes (fun _ _ _ _ h => h)) (pa_cons (pv 16) (pa_cons (pv 14) pa_nil))))) pa_nil)))
  (pss_cons (ps_expr (pe_bm PySem.F.plainAttrs_list PySem.F.slot_list_append PySem.F.type_list_append mt_append (pv 12) (pa_cons (pe_lamF (k := 12) (Ng := ["call"]) rfl T.m__law_is_refused T.F__law_is_refused T.b__law_is_refused sc__law_is_refused rfl (Or.inl rfl) (fun cdv => gives_refK T rfl rfl cdv _ _) TB rfl hin hun (hr.down (by decide)) (LamX.lamS_by (by show LamX.lamSB (defScope s__law_right) _ = true; decide +kernel)) rfl (fun _ _ _ _ _ => rfl) (fun A outer s H E f c hr => by exact (pe_callG G_is_items (hr.down (by decide)) rfl T.m_is_items T.F_is_items.kp T.b_is_items .nil (pxE lam_takes (fun _ _ _ _ h => h)) (pa_cons (pv 16) (pa_cons (pv 15) pa_nil))))) pa_nil)))
  (pss_cons (ps_expr (pe_bm PySem.F.plainAttrs_list PySem.F.slot_list_append PySem.F.type_list_append mt_append (pv 12) (pa_cons (pe_lamF (k := 12) (Ng := ["call"]) rfl T.m__law_is_refused T.F__law_is_refused T.b__law_is_refused sc__law_is_refused rfl (Or.inl rfl) (fun cdv => gives_refK T rfl rfl cdv _ _) TB rfl hin hun (hr.down (by decide)) (LamX.lamS_by (by show LamX.lamSB (defScope s__law_right) _ = true; decide +kernel)) rfl (fun _ _ _ _ _ => rfl) (fun A outer s H E f c hr => by exact (pe_callG G_is_row (hr.down (by decide)) rfl T.m_is_row T.F_is_row.kp T.b_is_row .nil (pxE lam_takes (fun _ _ _ _ h => h)) (pa_cons (pv 16) (pa_cons (pv 17) pa_nil))))) pa_nil)))
  (pss_one (ps_if (pt_cmpR (op_neD hr.r.units) (pv 12) (pe_op op_rep (pe_lst (pa_cons pe_bl pa_nil)) pe_int) (nomark _)) (pss_one (ps_ret pe_bl)) pss_nil))))))))))))))))
  (pss_one (ps_ret pe_bl)))))))))), ?_⟩
  walk_at "s"
  refine ⟨d, rfl, hd, fun p G0 b good np pk0 dc0 => ?_⟩
  walk_at "s"
  have raw := good.raw
  refine ⟨d, 2, rfl, dc0.dice, by decide, fun wl G1 names l1 ok1 nd1 np1 ew1 dc1 => ?_⟩
  walk_at "s"
  have nwd : wl ≠ d := fun q => (dc0.dice.ne np1) q.symm
  have hw : ∀ s ∈ names, nameB s = true := fun s hs => answer_name (answer_of (ok1 s hs).1 (ok1 s hs).2)
  have dc01 := dc0.trans dc1
  have pk1 := pairs_ex dc0.dice (Ex.dc dc1) pk0
  have tb1 := tabs_dc hd dc01.keep tabs
  obtain ⟨kvs1, ek1, rows1⟩ := id pk1
  refine ⟨rfl, ?_⟩
  walk_at "s"
  refine ⟨_, p, kvs1, b, rfl, ek1, rows1, raw, fun a G2 na s2 bk => ?_⟩
  rw [good.sorted] at bk
  walk_at "s"
  have pk2 : PairsAt G2 p b := ⟨kvs1, s2 _ _ ek1, rows1.same s2⟩
  refine ⟨p, b, rfl, pk2, raw, fun ol G3 outl nol s3 eol lst => ?_⟩
  walk_at "s"
  refine l_newT (xs := [.ref a, .ref ol]) (by show 2 ≤ sizeLine; decide) fun u2 G4 nu2 s4 eu2 => ?_
  refine l_gtup (tup_at eu2) rfl ?_
  walk_at "s"
  have s24 := (s2.trans s3).trans s4
  have dc4 : Dc d H G4 := dc01.same s24
  have nold : ol ≠ d := fun q => ((dc1.dice.same s2).ne nol) q.symm
  have bk4 := bk.same (s3.trans s4)
  have pk4 : PairsAt G4 p b := ⟨kvs1, s24 _ _ ek1, rows1.same s24⟩
  have eol4 := s4 _ _ eol
  have ew4 := s24 _ _ ew1
  refine ⟨d, 9, rfl, dc4.dice, by decide, by decide, fun r G5 r0 r1 dc5 => ?_⟩
  walk_at "s"
  have x5 : Ex d G4 G5 := Ex.dc dc5
  refine ⟨d, p, wl, b, names, r, rfl, r0, by omega, dc5.dice, pairs_ex dc4.dice x5 pk4, raw, x5.2 _ _ nwd ew4 (fun _ z => by cases z), nwd, hw, by omega, by omega, fun it xs ts G6 dc6 eit dits iok lts szi => ?_⟩
  walk_at "s"
  have x6 : Ex d G4 G6 := x5.trans (Ex.dc dc6)
  have hd4 := dc4.dice
  have bk6 := bk4.ex hd4 x6
  have allI : ts.all (itemD b) = true := by
    have h : (ts.all (itemD b) && _) = true := iok
    exact (Bool.and_eq_true _ _ ▸ h).1
  have szs : Szs 272 2 ts := (szs_all szi).up (by omega) (Nat.le_refl _)
  have dIt : Dat d G6 (.ref it) (.tuple ts) := .tup eit dits
  have szT : Sz 272 3 (.tuple ts) := sz_tup szs (by decide)
  refine ⟨d, .ref a, .ref it, .tuple ts, rfl, Or.inl ⟨a, b, rfl, bk6.rd, dIt, szT.tx, fun G7 s7 => ?_⟩⟩
  rw [iok]
  walk_at "s"
  refine ⟨true, true, rfl, rfl, ?_⟩
  refine l_bl (i_f rfl ?_)
  walk_at "s"
  refine l_lcTx (tup_at (s7 _ _ eit)) (ts.map fun t => !itemD b t) xs (by rw [List.length_map, dits.len]) rfl (by rw [dits.len]; omega) (fun n x bb hx hb J sj R r => ?_) (fun n x v hx _ hv J sj R r => ?_) (fun D J nD sj eD => ?_)
  · obtain ⟨u, hu, du⟩ := dits.at hx
    rw [List.getElem?_map, hu] at hb
    obtain rfl := Option.some.inj hb
    have s67 := s7.trans sj
    walk_at "s"
    refine ⟨d, .ref a, x, u, rfl, Or.inl ⟨a, b, rfl, (bk6.same s67).rd, du.same s67, (szi u (List.mem_of_getElem? hu)).tx, fun J2 sJ2 => ?_⟩⟩
    walk_at "s"
    refine ⟨_, true, rfl, rfl, ?_⟩
    have e : (!decide (itemD b u = true)) = !itemD b u := by cases itemD b u <;> rfl
    rw [e]
    exact l_bl (r J2 sJ2)
  · rw [hx] at hv
    obtain rfl := Option.some.inj hv
    exact s_var rfl (r J (Same.refl J))
  walk_at "s"
  refine l_newL (xs := []) (by show 0 ≤ sizeLine; decide) fun D2 J2 nD2 sj2 eD2 => ?_
  refine ⟨D, D2, _, rfl, rfl, sj2 _ _ eD, eD2, ?_⟩
  have ep : decide ((pick xs (ts.map fun t => !itemD b t)).length = 0) = true := by
    rw [decide_eq_true_iff, pick_none (by rw [List.length_map, dits.len])]
    intro y hy
    obtain ⟨u, hu, rfl⟩ := List.mem_map.mp hy
    rw [List.all_eq_true.mp allI u hu]
    rfl
  rw [ep]
  refine l_bl (i_f rfl ?_)
  walk_at "s"
  have s6J : Same G6 J2 := (s7.trans sj).trans sj2
  have x7 : Ex d G4 J2 := x6.trans (Ex.same dc6.dice s6J)
  refine s_lcR (j := 6) ?_
  walk_at "s"
  refine ⟨d, 8, rfl, x7.1, by decide, by decide, fun r8 G8 r80 r81 dc8 => ?_⟩
  walk_at "s"
  refine ⟨r8, rfl, by omega, by omega, fun D3 hD3 => ?_⟩
  have hd8 := dc8.dice
  have nD3 : D3 ≠ d := fun q => (hd8.ne hD3) q.symm
  have lw : (intsTo r8.toNat).length = r8.toNat := by unfold intsTo; rw [List.length_map, List.length_range]
  have x8 : Ex d G4 G8 := x7.trans (Ex.dc dc8)
  have eol8 := x8.2 _ _ nold eol4 (fun _ z => by cases z)
  have nD3o : ol ≠ D3 := fun q => by rw [q, hD3] at eol8; cases eol8
  obtain ⟨lst1, lst2, lst3, lst4⟩ := id lst
  refine lc_it (walk_ints (n := r8.toNat)) (fun i G => ∃ acc : List V, G D3 = some (.lst acc) ∧ acc.length = i ∧ (∀ v ∈ acc, ∃ s ∈ outl, v = .str s) ∧ Dc d G8 G) ?_ (fun _ _ _ _ => trivial) ?_ (fun G p => ?_)
  · refine ⟨[], upd_same, rfl, fun _ h => (nomatch h), Keep.of (Same.upd0 hD3), ?_⟩
    obtain ⟨y1, y2, y3, z⟩ := hd8
    exact ⟨y1, y2, y3, by rw [upd_ne (Ne.symm nD3)]; exact z⟩
  · rintro i x G G' hi ⟨acc, eD, la, av, dc⟩ y
    obtain ⟨rfl, hx⟩ := y
    rw [lw] at hi
    refine s_name ⟨rfl, ?_⟩
    refine s_yes (i_t rfl ?_)
    walk_at "s"
    refine ⟨d, ol, outl.map V.str, rfl, dc.dice, SqL.of (dc.keep _ _ nold eol8), nold, by rw [List.length_map]; exact lst4, by rw [List.length_map]; omega, fun v G2 hv dc2 => ?_⟩
    obtain ⟨sv, hsv, rfl⟩ := List.mem_map.mp hv
    refine ⟨acc, dc2.keep _ _ nD3 eD, by rw [sizeLine_eq]; omega, acc ++ [.str sv], upd_same, by rw [List.length_append, la]; rfl, fun v hv => ?_, ?_⟩
    · rcases List.mem_append.mp hv with h | h
      · exact av v h
      · exact ⟨sv, hsv, List.mem_singleton.mp h⟩
    · have d1 := dc.trans dc2
      refine ⟨fun c o nc ec => ?_, ?_⟩
      · rw [upd_ne (ne_of_none ec hD3)]
        exact d1.keep c o nc ec
      · obtain ⟨q1, q2, q3, q4⟩ := d1.dice
        exact ⟨q1, q2, q3, by rw [upd_ne (Ne.symm nD3)]; exact q4⟩
  obtain ⟨acc, eD3, la, av, dcr⟩ := p
  rw [lw] at la
  walk_at "s"
  refine l_tupL (SqL.of eD3) fun rw_ G9 nrw s9 erw => ?_
  walk_at "s"
  have x9 : Ex d G4 G9 := (x8.trans (Ex.dc dcr)).trans (Ex.same dcr.dice s9)
  have rowD9 : ∃ rs, Dats d G9 acc rs ∧ Szs 63 4 rs ∧ rs.length ≤ 7 := by
    have lem : ∀ l : List V, (∀ v ∈ l, ∃ s ∈ outl, v = .str s) → ∃ rs, Dats d G9 l rs ∧ (∀ t ∈ rs, Sz 8 4 t) := by
      intro l
      induction l with
      | nil => exact fun _ => ⟨[], .nil, fun _ h => (nomatch h)⟩
      | cons v l ih =>
        intro h
        obtain ⟨sv, hsv, rfl⟩ := h v List.mem_cons_self
        obtain ⟨rs, h1, h2⟩ := ih fun u hu => h u (List.mem_cons_of_mem _ hu)
        exact ⟨.str sv :: rs, .cons (.str sv) h1, fun t ht => by
          rcases List.mem_cons.mp ht with q | q
          · rw [q]
            exact sz_name (lst3 sv hsv)
          · exact h2 t q⟩
    obtain ⟨rs, h1, h2⟩ := lem acc av
    have l1 := h1.len
    exact ⟨rs, h1, (szs_all h2).up (by omega) (Nat.le_refl _), by omega⟩
  obtain ⟨rs, drs, szr, lrs⟩ := rowD9
  refine ⟨d, rfl, x9.1, fun p2 G10 b2 good2 np2 pk2b dc10 => ?_⟩
  walk_at "s"
  refine ⟨p2, b2, rfl, pk2b, good2.raw, fun ol2 G11 outl2 nol2 s11 eol2 lst2b => ?_⟩
  walk_at "s"
  have x11 : Ex d G4 G11 := (x9.trans (Ex.dc dc10)).trans (Ex.same dc10.dice s11)
  obtain ⟨kvs11, ek11, rows11⟩ := pairs_ex hd4 x11 pk4
  refine l_listK (Or.inl ek11) fun q12 G12 nq12 s12 eq12 => ?_
  have ekm : (kvs11.map fun p => kV p.1) = (b.map (·.1)).map V.str := by
    have e := congrArg (List.map kV) rows11.keys
    rw [List.map_map, List.map_map] at e
    exact e
  rw [ekm] at eq12
  have n6 := raw.n6
  obtain ⟨lm1, lm2, lm3, lm4⟩ := id lst2b
  walk_at "s"
  refine l_cat (s12 _ _ eol2) eq12 (by rw [List.length_map, List.length_map, List.length_map, sizeLine_eq]; omega) fun oth G13 noth s13 eoth => ?_
  walk_at "s"
  have s1113 := s12.trans s13
  have x13 : Ex d G4 G13 := x11.trans (Ex.same x11.1 s1113)
  rw [← List.map_append] at eoth
  generalize hms : outl2 ++ b.map (·.1) = ms at eoth
  have msN : (∀ s ∈ ms, nameB s = true) ∧ ms.length ≤ 100 := by
    subst hms
    refine ⟨fun s hs => ?_, by rw [List.length_append, List.length_map]; omega⟩
    rcases List.mem_append.mp hs with h | h
    · exact lm3 s h
    · obtain ⟨e, he, rfl⟩ := List.mem_map.mp h
      exact answer_name (raw.nm e he)
  have noth_d : oth ≠ d := fun q => ((x11.1.same s12).ne noth) q.symm
  have bk13 := bk4.ex hd4 x13
  have pk13 := pairs_ex hd4 x13 pk4
  have x6_13 : Ex d G6 G13 := (((Ex.same dc6.dice s6J).trans (Ex.dc dc8)).trans (Ex.dc dcr)).trans ((Ex.same dcr.dice s9).trans ((Ex.dc dc10).trans ((Ex.same dc10.dice s11).trans (Ex.same x11.1 s1113))))
  have eit13 : G13 it = some (.tup xs) := x6_13.at dc6.dice eit (fun _ z => by cases z) (fun _ z => by cases z)
  have dits13 : Dats d G13 xs ts := Dats.ex dc6.dice x6_13 dits
  have x9_13 : Ex d G9 G13 := (Ex.dc dc10).trans ((Ex.same dc10.dice s11).trans (Ex.same x11.1 s1113))
  have erw13 : G13 rw_ = some (.tup acc) := x9_13.at x9.1 erw (fun _ z => by cases z) (fun _ z => by cases z)
  have drs13 : Dats d G13 acc rs := Dats.ex x9.1 x9_13 drs
  have xH13 : Ex d H G13 := (Ex.dc dc4).trans x13
  have hd13 := x13.1
  have tb4 := tb1.ext s24
  have tb13 : LamX.Tabs T.tabs G13 := by
    have t6 := tabs_dc dc5.dice dc6.keep (tabs_dc hd4 dc5.keep tb4)
    have t8 := tabs_dc x7.1 dc8.keep (t6.ext s6J)
    have t9 := (tabs_dc hd8 dcr.keep t8).ext s9
    exact ((tabs_dc x9.1 dc10.keep t9).ext s11).ext s1113
  refine l_forR (n := 4) (by decide) (by decide) (fun i τ G => ∃ z6 z9 z10 z11 z12 z13 z14 z15 z16 z17 z18 : Option V, τ = [some (.ref d), some (.ref p), some (.ref wl), some (.ref a), some (.ref ol), some (.ref it), z6, some (.ref rw_), some (.ref oth), z9, z10, z11, z12, z13, z14, z15, z16, z17, z18] ∧ Ex d G13 G ∧ LamX.Tabs T.tabs G) ?_ ?_ ?_
  · exact ⟨_, _, _, _, _, _, _, _, _, _, _, rfl, Ex.refl hd13, tb13⟩
  · rintro i τ G hi ⟨z6, z9, z10, z11, z12, z13, z14, z15, z16, z17, z18, rfl, xG, tG⟩
    walk_at "s"
    have X0 : ExT T d G G := ExT.refl xG.1
    have eitG := xG.at hd13 eit13 (fun _ z => by cases z) (fun _ z => by cases z)
    have ditsG := Dats.ex hd13 xG dits13
    have bkG := bk13.ex hd13 xG
    have pkG := pairs_ex hd13 xG pk13
    have erwG := xG.at hd13 erw13 (fun _ z => by cases z) (fun _ z => by cases z)
    have drsG := Dats.ex hd13 xG drs13
    have eothG := xG.2 _ _ noth_d eoth (fun _ z => by cases z)
    have tupAt : ∀ {J : Hp} {u : Addr} {us : List V}, ExT T d G J → G u = some (.tup us) → J u = some (.tup us) := fun e h => e.x.at xG.1 h (fun _ z => by cases z) (fun _ z => by cases z)
    have lx : xs.length ≤ 8 := by rw [dits.len]; exact lts
    refine l_listT (tup_at eitG) fun l1 J1 nl1 s1 el1 => ?_
    have X1 := X0.s s1
    walk_at "s"
    refine l_newT (xs := [V.str "mark"]) (by show 1 ≤ sizeLine; decide) fun m1 J2 nm1 s2 em1 => ?_
    have X2 := X1.s s2
    walk_at "s"
    refine l_newL (xs := [V.ref m1]) (by show 1 ≤ sizeLine; decide) fun l2 J3 nl2 s3 el2 => ?_
    have X3 := X2.s s3
    refine l_cat ((s2.trans s3) _ _ el1) el2 (by rw [sizeLine_eq]; show _ + 1 ≤ _; omega) fun l3 J4 nl3 s4 el3 => ?_
    have X4 := X3.s s4
    walk_at "s"
    refine ⟨d, l3, _, rfl, X4.x.1, SqL.of el3, (fun q => (X3.x.1.ne nl3) q.symm), by rw [List.length_append]; exact Nat.lt_of_lt_of_le (show 0 < 1 by decide) (Nat.le_add_left _ _), by rw [List.length_append]; show _ + 1 < _; omega, fun x J5 hx dc5 => ?_⟩
    have X5 := X4.d dc5
    have px : ∃ t, Dat d J5 x t ∧ itemD b t = true ∧ Sz 33 2 t := by
      rcases List.mem_append.mp hx with h | h
      · obtain ⟨t, ht, dt⟩ := Dats.mem (Dats.ex xG.1 X5.x ditsG) h
        exact ⟨t, dt, List.all_eq_true.mp allI t ht, szi t ht⟩
      · rw [List.mem_singleton.mp h]
        exact ⟨.tuple [.str "mark"], .tup ((Ex.dc dc5).at X4.x.1 ((s3.trans s4) _ _ em1) (fun _ z => by cases z) (fun _ z => by cases z)) (.cons (.str _) .nil), mark_ok, (sz_tup (m := 0) (szs_cons (sz_str (m := 0) (by decide +kernel) (Nat.le_refl _)) szs_nil) (by decide +kernel)).up (by decide +kernel) (by decide)⟩
    obtain ⟨tx, dx, ix, zx⟩ := px
    walk_at "s"
    refine ⟨d, p, b, x, tx, rfl, X5.x.1, pairs_ex xG.1 X5.x pkG, raw, dx, ix, zx, fun bent J6 dc6 pb => ?_⟩
    have X6 := X5.d dc6
    have Y6 : ExT T d J6 J6 := ExT.refl X6.x.1
    walk_at "s"
    refine l_lenT (tup_at (tupAt X6 eitG)) ?_
    walk_at "s"
    refine ⟨d, _, rfl, X6.x.1, by omega, by omega, fun at_ J7 a0 a1 dc7 => ?_⟩
    have X7 := X6.d dc7
    have Y7 := Y6.d dc7
    walk_at "s"
    refine l_slA (tupAt X7 eitG) fun p8 J8 s8 e8 => ?_
    have X8 := X7.s s8
    have Y8 := Y7.s s8
    walk_at "s"
    refine l_newT (xs := [bent]) (by show 1 ≤ sizeLine; decide) fun p9 J9 n9 s9' e9 => ?_
    have X9 := X8.s s9'
    have Y9 := Y8.s s9'
    refine l_catA (s9' _ _ e8) e9 (by have := cutV_length xs none (some at_); rw [sizeLine_eq]; show _ + 1 ≤ _; omega) fun p10 J10 s10 e10 => ?_
    have X10 := X9.s s10
    have Y10 := Y9.s s10
    walk_at "s"
    refine ⟨d, 2, rfl, X10.x.1, by decide, by decide, fun r2 J11 r20 r21 dc11 => ?_⟩
    have X11 := X10.d dc11
    have Y11 := Y10.d dc11
    walk_at "s"
    have e10' := (Ex.dc dc11).at X10.x.1 e10 (fun _ z => by cases z) (fun _ z => by cases z)
    refine l_slA (tupAt X11 eitG) fun p12 J12 s12' e12 => ?_
    have X12 := X11.s s12'
    have Y12 := Y11.s s12'
    refine l_catA (s12' _ _ e10') e12 (by have := cutV_length xs none (some at_); have := cutV_length xs (some (at_ + r2)) none; rw [List.length_append, sizeLine_eq]; show _ + 1 + _ ≤ _; omega) fun p13 J13 s13' e13 => ?_
    have X13 := X12.s s13'
    have Y13 := Y12.s s13'
    walk_at "s"
    have psome : PrU d 952 9 J13 (.ref p13) := by
      have dI := Dats.ex xG.1 X13.x ditsG
      obtain ⟨u1, d1, z1⟩ := cut_any none (some at_) dI szs
      obtain ⟨u2, d2, z2⟩ := cut_any (some (at_ + r2)) none dI szs
      obtain ⟨tb, db, zb⟩ := pru_ex X6.x.1 Y13.x pb
      exact ⟨_, .tup e13 ((d1.app (.cons db .nil)).app d2), (sz_tup ((szs_app (z2.up (Nat.le_refl _) (by decide)) (szs_app (szs_cons zb szs_nil) (z1.up (Nat.le_refl _) (by decide)))).up (Nat.le_refl _) (Nat.le_refl _)) (by decide)).up (by decide) (by decide)⟩
    refine l_newT (xs := [V.str "mark"]) (by show 1 ≤ sizeLine; decide) fun m14 J14 n14 s14 e14 => ?_
    have X14 := X13.s s14
    have Y14 := Y13.s s14
    walk_at "s"
    refine l_newL (xs := [V.ref m14, bent]) (by show 2 ≤ sizeLine; decide) fun L15 J15 n15 s15 e15 => ?_
    have X15 := X14.s s15
    have Y15 := Y14.s s15
    walk_at "s"
    refine ⟨d, it, L15, xs, [.ref m14, bent], ts, 272, 135, 7, rfl, X15.x.1, tupAt X15 eitG, Dats.ex xG.1 X15.x ditsG, szs.up (Nat.le_refl _) (by decide), e15, (fun q => (X14.x.1.ne n15) q.symm), by show 0 < 2; decide, by show 2 ≤ 1000; decide, fun y hy => ?_, by decide, fun y J16 dc16 py => ?_⟩
    · simp only [List.mem_cons, List.not_mem_nil, or_false] at hy
      rcases hy with rfl | rfl
      · exact ⟨_, .tup (s15 _ _ e14) (.cons (.str _) .nil), (sz_tup (m := 6) (szs_cons (sz_str (m := 6) (by decide +kernel) (Nat.le_refl _)) szs_nil) (by decide +kernel)).up (by decide +kernel) (Nat.le_refl _)⟩
      · exact pru_ex X6.x.1 Y15.x pb
    have X16 := X15.d dc16
    have Y16 := Y15.d dc16
    walk_at "s"
    refine ⟨d, rfl, X16.x.1, fun y2 J17 dc17 py2 => ?_⟩
    have X17 := X16.d dc17
    have Y17 := Y16.d dc17
    walk_at "s"
    refine l_newL (xs := [V.ref p13, y, y2]) (by show 3 ≤ sizeLine; decide) fun L18 J18 n18 s18 e18 => ?_
    have X18 := X17.s s18
    have Y18 := Y17.s s18
    walk_at "s"
    refine ⟨d, L18, _, rfl, X18.x.1, SqL.of e18, (fun q => (X17.x.1.ne n18) q.symm), by show 0 < 3; decide, by show 3 < 1000000; decide, fun mixed J19 hmx dc19 => ?_⟩
    have X19 := X18.d dc19
    have Y19 := Y18.d dc19
    have pm19 : PrU d 952 9 J19 mixed := by
      refine pru_ex X18.x.1 (Ex.dc dc19) ?_
      simp only [List.mem_cons, List.not_mem_nil, or_false] at hmx
      rcases hmx with rfl | rfl | rfl
      · exact pru_ex X13.x.1 ((((((ExT.refl (T := T) X13.x.1).s s14).s s15).d dc16).d dc17).s s18).x psome
      · obtain ⟨u, h1, h2⟩ := pru_ex X16.x.1 ((((ExT.refl (T := T) X16.x.1).d dc17).s s18)).x py
        exact ⟨u, h1, h2.up (by decide) (by decide)⟩
      · obtain ⟨u, h1, h2⟩ := pru_same _ _ _ s18 py2
        exact ⟨u, h1, h2.up (by decide) (by decide)⟩
    have Z19 : ExT T d J19 J19 := ExT.refl X19.x.1
    walk_at "s"
    refine ⟨d, rw_, oth, acc, rs, ms, rfl, X19.x.1, tupAt X19 erwG, Dats.ex xG.1 X19.x drsG, szr, X19.x.2 _ _ noth_d eothG (fun _ z => by cases z), msN.2, msN.1, fun y3 J20 dc20 py3 => ?_⟩
    have X20 := X19.d dc20
    have Y20 := Y19.d dc20
    have Z20 := Z19.d dc20
    walk_at "s"
    refine ⟨d, rfl, X20.x.1, fun y4 J21 dc21 py4 => ?_⟩
    have X21 := X20.d dc21
    have Y21 := Y20.d dc21
    have Z21 := Z20.d dc21
    walk_at "s"
    refine l_newL (xs := [V.ref rw_, y3, y4]) (by show 3 ≤ sizeLine; decide) fun L22 J22 n22 s22 e22 => ?_
    have X22 := X21.s s22
    have Y22 := Y21.s s22
    have Z22 := Z21.s s22
    walk_at "s"
    refine ⟨d, L22, _, rfl, X22.x.1, SqL.of e22, (fun q => (X21.x.1.ne n22) q.symm), by show 0 < 3; decide, by show 3 < 1000000; decide, fun rows J23 hrw dc23 => ?_⟩
    have X23 := X22.d dc23
    have Y23 := Y22.d dc23
    have Z23 := Z22.d dc23
    have pr23 : PrU d 210 6 J23 rows := by
      refine pru_ex X22.x.1 (Ex.dc dc23) ?_
      simp only [List.mem_cons, List.not_mem_nil, or_false] at hrw
      rcases hrw with rfl | rfl | rfl
      · exact ⟨_, .tup (tupAt X22 erwG) (Dats.ex xG.1 X22.x drsG), (sz_tup szr (by decide)).up (by decide) (by decide)⟩
      · exact pru_ex X20.x.1 ((((ExT.refl (T := T) X20.x.1).d dc21).s s22)).x py3
      · obtain ⟨u, h1, h2⟩ := pru_same _ _ _ s22 py4
        exact ⟨u, h1, h2.up (by decide) (by decide)⟩
    obtain ⟨tb, db, zb⟩ := pru_ex X6.x.1 Y23.x pb
    obtain ⟨tm, dm, zm⟩ := pru_ex X19.x.1 Z23.x pm19
    obtain ⟨tr, dr, zr⟩ := pr23
    have szR : Szs 1500 9 [tb, tm, tr] := (szs_cons (zb.up (Nat.le_refl _) (by decide)) (szs_cons (zm.up (Nat.le_refl _) (by decide)) (szs_cons (zr.up (Nat.le_refl _) (by decide)) szs_nil))).up (by decide) (Nat.le_refl _)
    have dsR : Dats d J23 [bent, mixed, rows] [tb, tm, tr] := .cons db (.cons dm (.cons dr .nil))
    walk_at "s"
    refine l_newL (xs := [bent, mixed, rows]) (by show 3 ≤ sizeLine; decide) fun L24 J24 n24 s24' e24 => ?_
    have X24 := X23.s s24'
    walk_at "s"
    refine ⟨d, L24, _, [tb, tm, tr], rfl, e24, Dats.same s24' dsR, szR.sh, Nat.le_trans szR.dp (by decide), szs_repr szR (by decide), ?_⟩
    walk_at "s"
    have bk24 := bkG.ex xG.1 X24.x
    have db24 := db.same s24'
    have dm24 := dm.same s24'
    have dr24 := dr.same s24'
    have pk24 := pairs_ex xG.1 X24.x pkG
    refine ⟨d, .ref a, bent, tb, rfl, Or.inl ⟨a, b, rfl, bk24.rd, db24, zb.tx, fun J25 s25 => ?_⟩⟩
    walk_at "s"
    refine ⟨d, .ref a, mixed, tm, rfl, Or.inl ⟨a, b, rfl, (bk24.same s25).rd, dm24.same s25, zm.tx, fun J26 s26 => ?_⟩⟩
    walk_at "s"
    have s2526 := s25.trans s26
    refine ⟨d, .ref a, rows, tr, rfl, Or.inl ⟨a, b, rfl, bk24.same s2526, dr24.same s2526, zr.tx, fun J27 s27 => ?_⟩⟩
    walk_at "s"
    refine l_newL (xs := [V.bl (itemD b tb), .bl (itemsD b tm), .bl (rowD b tr)]) (by show 3 ≤ sizeLine; decide) fun L28 J28 n28 s28 e28 => ?_
    walk_at "s"
    have s2428 := (s2526.trans s27).trans s28
    obtain ⟨kv28, ek28, rw28⟩ := id pk24
    refine ⟨d, p, kv28, b, bent, tb, rfl, Or.inl (s2428 _ _ ek28), rw28.same s2428, raw.nd, db24.same s2428, zb.tx, fun J29 s29 => ?_⟩
    walk_at "s"
    have s2429 := s2428.trans s29
    refine ⟨d, p, b, mixed, tm, rfl, ⟨kv28, s2429 _ _ ek28, rw28.same s2429⟩, raw, dm24.same s2429, zm.tx, fun J30 s30 => ?_⟩
    walk_at "s"
    have s2430 := s2429.trans s30
    refine ⟨d, p, b, rows, tr, rfl, ⟨kv28, s2430 _ _ ek28, rw28.same s2430⟩, raw, dr24.same s2430, zr.tx, fun J31 s31 => ?_⟩
    walk_at "s"
    refine l_newL (xs := [V.bl (itemD b tb), .bl (itemsD b tm), .bl (rowD b tr)]) (by show 3 ≤ sizeLine; decide) fun L32 J32 n32 s32 e32 => ?_
    walk_at "s"
    have s2832 := ((s29.trans s30).trans s31).trans s32
    have sml3 := sml_list (n := 5) (m := 0) (ds := [PyData.bool (itemD b tb), .bool (itemsD b tm), .bool (rowD b tr)]) fun u hu => by
      simp only [List.mem_cons, List.not_mem_nil, or_false] at hu
      rcases hu with rfl | rfl | rfl
      · exact sml_bl _
      · exact sml_bl _
      · exact sml_bl _
    refine l_repr (.lst (SqL.of (s2832 _ _ e28)) (.cons (.bl _) (.cons (.bl _) (.cons (.bl _) .nil)))) sml3.sh sml3.nd (by have := sml3.dp; omega) (by have := sml3.ln; rw [sizeLine_eq]; simp at this; omega) ?_
    walk_at "s"
    refine l_repr (.lst (SqL.of e32) (.cons (.bl _) (.cons (.bl _) (.cons (.bl _) .nil)))) sml3.sh sml3.nd (by have := sml3.dp; omega) (by have := sml3.ln; rw [sizeLine_eq]; simp at this; omega) ?_
    walk_at "s"
    refine i_f (by rw [decide_eq_true rfl]; rfl) ?_
    walk_at "s"
    have s2432 := (s2430.trans s31).trans s32
    refine l_newL (xs := [bent, mixed, rows]) (by show 3 ≤ sizeLine; decide) fun L33 J33 n33 s33 e33 => ?_
    walk_at "s"
    have s2333 := (s24'.trans s2432).trans s33
    refine ⟨d, L33, _, [tb, tm, tr], rfl, e33, Dats.same s2333 dsR, szR.sh, Nat.le_trans szR.dp (by decide), szs_repr szR (by decide), ?_⟩
    walk_at "s"
    refine i_f (by rw [decide_eq_true rfl]; rfl) ?_
    walk_at "s"
    have X33 := X23.s s2333
    refine l_newT (xs := []) (by show 0 ≤ sizeLine; decide) fun q34 J34 n34 s34 e34 => ?_
    walk_at "s"
    refine l_newL (xs := []) (by show 0 ≤ sizeLine; decide) fun q35 J35 n35 s35 e35 => ?_
    have X34 := X33.s s34
    have X35 := X34.s s35
    walk_at "s"
    refine s_dnew fun q36 J36 n36 s36 e36 => ?_
    have X36 := X35.s s36
    walk_at "s"
    refine l_newL (xs := [V.non, .int 0, .str "book", .ref q34, .ref q35, .ref q36, .ref p, .bl true]) (by show 8 ≤ sizeLine; decide) fun L37 J37 n37 s37 e37 => ?_
    have X37 := X36.s s37
    walk_at "s"
    refine ⟨d, L37, _, rfl, X37.x.1, SqL.of e37, (fun q => (X36.x.1.ne n37) q.symm), by show 0 < 8; decide, by show 8 < 1000000; decide, fun ov J38 hov dc38 => ?_⟩
    have X38 := X37.d dc38
    have pod : Kd d J38 ov := by
      refine kd_ex X37.x.1 (Ex.dc dc38) ?_
      simp only [List.mem_cons, List.not_mem_nil, or_false] at hov
      rcases hov with rfl | rfl | rfl | rfl | rfl | rfl | rfl | rfl
      · exact Or.inl ⟨_, .non⟩
      · exact Or.inl ⟨_, .int 0⟩
      · exact Or.inl ⟨_, .str _⟩
      · exact Or.inl ⟨_, .tup (((s35.trans s36).trans s37) _ _ e34) .nil⟩
      · exact Or.inl ⟨_, .lst ((s36.trans s37) _ _ e35) (fun q => (X34.x.1.ne n35) q.symm) .nil⟩
      · exact Or.inl ⟨_, .dct (kvs := []) (s37 _ _ e36) .nil⟩
      · obtain ⟨kvs37, ek37, _⟩ := pairs_ex xG.1 X37.x pkG
        exact Or.inr ⟨p, kvs37, rfl, ek37⟩
      · exact Or.inl ⟨_, .bl true⟩
    have W38 : ExT T d J38 J38 := ExT.refl X38.x.1
    walk_at "s"
    refine s_lam (X38.t tG) fun H1 c1 t1 => l_ref ?_
    have X39 := X38.n c1 t1
    have W39 := W38.n c1 t1
    walk_at "s"
    refine ⟨d, ov, bent, tb, rfl, Or.inr ⟨kd_kind (kd_ex X38.x.1 W39.x pod), rfl, fun J40 s40 => ?_⟩⟩
    have X40 := X39.s s40
    have W40 := W39.s s40
    walk_at "s"
    refine l_newL (xs := [V.bl true]) (by show 1 ≤ sizeLine; decide) fun L41 J41 n41 s41 e41 => ?_
    have X41 := X40.s s41
    have W41 := W40.s s41
    walk_at "s"
    refine ⟨.ref L41, rfl, Or.inl ⟨rfl, _, SqL.of e41⟩, ?_⟩
    walk_at "s"
    refine s_lam (X41.t tG) fun H2 c2 t2 => l_ref ?_
    have X42 := X41.n c2 t2
    have W42 := W41.n c2 t2
    walk_at "s"
    refine ⟨d, ov, mixed, tm, rfl, Or.inr ⟨kd_kind (kd_ex X38.x.1 W42.x pod), rfl, fun J43 s43 => ?_⟩⟩
    have X43 := X42.s s43
    have W43 := W42.s s43
    have e43 : J43 L41 = some (.lst [V.bl true]) := s43 _ _ (c2 _ _ e41 fun _ z => by cases z)
    walk_at "s"
    refine ⟨L41, [V.bl true], .bl true, rfl, rfl, e43, by show 1 < sizeLine; decide, ?_⟩
    have X44 := X40.u (ys := [V.bl true] ++ [.bl true]) n41 X43 e43
    have W44 := W40.u (ys := [V.bl true] ++ [.bl true]) n41 W43 e43
    walk_at "s"
    refine ⟨.ref L41, rfl, Or.inl ⟨rfl, _, SqL.of upd_same⟩, ?_⟩
    walk_at "s"
    refine s_lam (X44.t tG) fun H3 c3 t3 => l_ref ?_
    have X45 := X44.n c3 t3
    have W45 := W44.n c3 t3
    walk_at "s"
    refine ⟨d, ov, rows, tr, rfl, Or.inr (Or.inr ⟨kd_kind (kd_ex X38.x.1 W45.x pod), rfl, fun J46 s46 => ?_⟩)⟩
    have X46 := X45.s s46
    have e46 : J46 L41 = some (.lst ([V.bl true] ++ [.bl true])) := s46 _ _ (c3 _ _ upd_same fun _ z => by cases z)
    walk_at "s"
    refine ⟨L41, [V.bl true] ++ [.bl true], .bl true, rfl, rfl, e46, by show 2 < sizeLine; decide, ?_⟩
    have X47 := X40.u (ys := ([V.bl true] ++ [.bl true]) ++ [.bl true]) n41 X46 e46
    walk_at "s"
    refine l_newL (xs := [V.bl true]) (by show 1 ≤ sizeLine; decide) fun L48 J48 n48 s48 e48 => ?_
    walk_at "s"
    refine l_rep e48 (by decide) (by decide) (by show 1 * 3 ≤ sizeLine; decide) fun L49 J49 n49 s49 e49 => ?_
    have e50 : J49 L41 = some (.lst [V.bl true, .bl true, .bl true]) := (s48.trans s49) _ _ upd_same
    have e51 : J49 L49 = some (.lst [V.bl true, .bl true, .bl true]) := e49
    refine l_neD (.lst (SqL.of e50) (.cons (.bl true) (.cons (.bl true) (.cons (.bl true) .nil)))) (.lst (SqL.of e51) (.cons (.bl true) (.cons (.bl true) (.cons (.bl true) .nil)))) (by decide +kernel) (by decide +kernel) ?_
    refine l_bl (i_f (by decide +kernel) ?_)
    walk_at "s"
    have X49 := (X47.s s48).s s49
    exact ⟨_, _, _, _, _, _, _, _, _, _, _, rfl, xG.trans X49.x, X49.t tG⟩
  · rintro τ G ⟨z6, z9, z10, z11, z12, z13, z14, z15, z16, z17, z18, rfl, xG, tG⟩
    walk_at "s"
    exact k G (xH13.trans xG) tG
end
section
variable {w : World} {K : PySem.W.Frag} {mg : Str → Option Value} {base : Heap}
def sp_lawT (T : Txt K mg) : Sp := fun vs H Q _ => ∃ (a : Addr) (ns : List Int), vs = [.ref a] ∧ SqL K H a (ns.map V.int) ∧ ns.length ≤ 63 ∧ LamX.Tabs T.tabs H ∧ ∀ G, Q (.bl true) G
theorem want_lawT (T : Txt K mg) {H : Hp} {a : Addr} {ns : List Int} (hl : ns.length ≤ 63) (ht : ∀ p ∈ T.cot, H p.2 = some (.tbl #[])) (hs : SqL K H a (ns.map V.int)) : sp_lawT T [.ref a] H (fun v _ => v = .bl true) fun _ _ _ => False := by
  refine ⟨a, ns, rfl, hs, hl, fun p hp => ?_, fun _ => rfl⟩
  unfold Txt.tabs at hp
  obtain rfl := List.mem_singleton.mp hp
  exact LamX.TabS.nil (ht (T.co__law_right, T.tb__law_right) (by unfold Txt.cot; simp))
end
section
variable {w : World} {K : PySem.W.Frag} {mg : Str → Option Value} {base : Heap}
theorem script_ex {H0 H1 G : Hp} {a d : Addr} {xs : List V} (h : SqL K H0 a xs) (n : H0 d = none) (s : Same H0 H1) (x : Ex d H1 G) : SqL K G a xs := by
  rcases h with h | h
  · refine sql_ex (fun z => ?_) x (s.seq (show SqL K H0 a xs from Or.inl h))
    rcases h with h | ⟨o, h⟩
    · rw [z, n] at h
      cases h
    · rw [z, n] at h
      cases h
  · exact Or.inr h
def bL : PB := [("look", 1, ["full", "room"]), ("put", 2, ["ok"])]
def tF : PyData := .tuple [.str "send", .str "look", .tuple [.none]]
def tT : PyData := .tuple [.str "send", .str "put", .tuple [.int 0, .str "who"]]
def tS (i : Int) : PyData := .tuple [.str "send", .str "put", .tuple [.int 0, .int i]]
def tM : PyData := .tuple [.str "mark"]
theorem txF : Tx tF := .tup (.cons (.str (by decide +kernel)) (.cons (.str (by decide +kernel)) (.cons (.tup (.cons .non .nil) (by decide)) .nil))) (by decide)
theorem txT : Tx tT := .tup (.cons (.str (by decide +kernel)) (.cons (.str (by decide +kernel)) (.cons (.tup (.cons (.int 0) (.cons (.str (by decide +kernel)) .nil)) (by decide)) .nil))) (by decide)
theorem txS (i : Int) : Tx (tS i) := .tup (.cons (.str (by decide +kernel)) (.cons (.str (by decide +kernel)) (.cons (.tup (.cons (.int 0) (.cons (.int i) .nil)) (by show 2 ≤ 1000; decide)) .nil))) (by show 3 ≤ 1000; decide)
theorem txM : Tx tM := .tup (.cons (.str (by decide +kernel)) .nil) (by decide)
theorem v1 : itemsD bL (.tuple [tF, tT]) = true := by decide +kernel
theorem v2 : itemsD bL (.tuple [tT, tF]) = false := by decide +kernel
theorem v3 : itemsD bL (.tuple [tM, tF, tT]) = false := by decide +kernel
theorem v4 : itemsD bL (.tuple [tF, tM, tS 1]) = false := by decide +kernel
theorem v5 : itemsD bL (.tuple []) = true := by decide +kernel
theorem v6 : itemsD bL (.tuple [tF, tS 2, tF]) = false := by decide +kernel
theorem v7 : itemsD bL (.list [tF]) = false := rfl
theorem v8 : itemD bL tT = true := by decide +kernel
theorem in_of {e : Str × Nat × List Str} {s : Str} (he : e ∈ bL) (h : s ∈ e.2.2 ∨ s = "failed") : inOut bL (.str s) = true := decide_eq_true ⟨e, he, mem_outs.mpr h⟩
theorem v9 : rowD bL (.tuple [.str "full", .str "ok", .str "failed"]) = true := by
  show (inOut bL (.str "full") && (inOut bL (.str "ok") && (inOut bL (.str "failed") && true))) = true
  rw [in_of (e := ("look", 1, ["full", "room"])) (by decide +kernel) (Or.inl (by decide +kernel)), in_of (e := ("put", 2, ["ok"])) (by decide +kernel) (Or.inl (by decide +kernel)), in_of (e := ("put", 2, ["ok"])) (by decide +kernel) (Or.inr rfl)]
  rfl
theorem v10 : rowD bL (.tuple [.str "full", .str "kept"]) = false := by
  show (inOut bL (.str "full") && (inOut bL (.str "kept") && true)) = false
  have h : inOut bL (.str "kept") = false := by
    refine decide_eq_false fun ⟨e, he, hs⟩ => ?_
    unfold bL at he
    simp only [List.mem_cons, List.not_mem_nil, or_false] at he
    rcases he with rfl | rfl
    · rcases mem_outs.mp hs with h | h
      · exact absurd h (by decide +kernel)
      · exact absurd h (by decide +kernel)
    · rcases mem_outs.mp hs with h | h
      · exact absurd h (by decide +kernel)
      · exact absurd h (by decide +kernel)
  rw [h, Bool.false_and, Bool.and_false]
theorem v11 : rowD bL (.tuple []) = true := rfl
theorem ok_law (T : Txt K mg) (TB : ∀ p ∈ T.cot, LamX.TabB base mg p.1 p.2) : FnG prog0 w K mg base CX0 24 T.a_law T.d_law ["script"] (sp_lawT T) := by
  have TB3 : LamX.TabB base mg T.co__law_right T.tb__law_right := TB (T.co__law_right, T.tb__law_right) (by unfold Txt.cot; simp)
  have GK_Book_look_put : FnKW prog0 w K mg base CX0 6 T.a_Book___init__ ["look", "put"] (sp_init T) := gk_lp T
  have G_is_item : FnG prog0 w K mg base (L2.CX prog0 w) 5 T.a_is_item T.d_is_item ["book", "value"] (sp_is_item T) := ok_is_item T
  have G_is_items : FnG prog0 w K mg base (L2.CX prog0 w) 5 T.a_is_items T.d_is_items ["book", "value"] (sp_is_items T) := ok_is_items T
  have G_is_row : FnG prog0 w K mg base (L2.CX prog0 w) 5 T.a_is_row T.d_is_row ["book", "value"] (sp_is_row T) := ok_is_row T
  have G__law_dice : FnG prog0 w K mg base CX0 1 T.a__law_dice T.d__law_dice ["script", "at"] (sp__law_dice K) := ok__law_dice T
  have G__law_right : FnG prog0 w K mg base CX0 22 T.a__law_right T.d__law_right ["dice"] (sp_right T) := ok__law_right T TB3
  have HP := @PassesOwn.never
  refine okG T.F_law sc_law (fun vs H Q E h => ?_) (fun cdv A fs s H vs Q E hr h => ?_)
  · obtain ⟨a, ns, rfl, _⟩ := h
    rfl
  obtain ⟨a, ns, rfl, hS, hl, tabs, k⟩ := h
  have nd := sc_law.nd
  refine ⟨_, ((pss_cons (ps_for HP rfl (pi_range1 rfl T.z_range (pa_cons (pe_callB (c_max2 rfl) (by rfl) T.z_max (by decide +kernel) (pa_cons pe_int (pa_cons (pe_callB (c_min2 rfl) (by rfl) T.z_min (by decide +kernel) (pa_cons pe_int (pa_cons (pe_callB c_len (by rfl) T.z_len (by decide +kernel) (pa_cons (pv 0) pa_nil)) pa_nil))) pa_nil))) pa_nil)) (pg_name (i := 1) nd rfl (Or.inl rfl)) (pss_one (ps_if (pt_not (pt_val (pe_callG G__law_right (hr.down (by decide)) rfl T.m__law_right T.F__law_right.kp T.b__law_right .nil pass0 (pa_cons (pe_callG G__law_dice (hr.down (by decide)) rfl T.m__law_dice T.F__law_dice.kp T.b__law_dice .nil pass0 (pa_cons (pv 0) (pa_cons (pv 1) pa_nil))) pa_nil)))) (pss_one (ps_ret pe_bl)) pss_nil)))
  (pss_cons (ps_set (i := 2) nd rfl (Or.inl rfl) (pe_makeKW T.k_Book GK_Book_look_put (hr.down (by decide)) rfl T.m_Book pass0 (pk_cons (pe_tup (pa_cons pe_int (pa_cons (pe_tup (pa_cons pe_str (pa_cons pe_str pa_nil))) pa_nil))) (pk_cons (pe_tup (pa_cons pe_int (pa_cons (pe_tup (pa_cons pe_str pa_nil)) pa_nil))) pk_nil))))
  (pss_cons (ps_asg (pe_tup (pa_cons (pe_tup (pa_cons pe_str (pa_cons pe_str (pa_cons (pe_tup (pa_cons pe_non pa_nil)) pa_nil)))) (pa_cons (pe_tup (pa_cons pe_str (pa_cons pe_str (pa_cons (pe_tup (pa_cons pe_int (pa_cons pe_str pa_nil))) pa_nil)))) pa_nil))) (show PG _ _ (gPair K 3 4) from pg_pair rfl (pg_name (i := 3) nd rfl (Or.inl rfl)) (pg_name (i := 4) nd rfl (Or.inl rfl))))
  (pss_cons (ps_set (i := 5) nd rfl (Or.inl rfl) (pe_lst (pa_cons (pe_callG G_is_items (hr.down (by decide)) rfl T.m_is_items T.F_is_items.kp T.b_is_items .nil passN (pa_cons (pv 2) (pa_cons (pe_tup (pa_cons (pv 3) (pa_cons (pv 4) pa_nil))) pa_nil))) (pa_cons (pe_callG G_is_items (hr.down (by decide)) rfl T.m_is_items T.F_is_items.kp T.b_is_items .nil passN (pa_cons (pv 2) (pa_cons (pe_tup (pa_cons (pv 4) (pa_cons (pv 3) pa_nil))) pa_nil))) (pa_cons (pe_callG G_is_items (hr.down (by decide)) rfl T.m_is_items T.F_is_items.kp T.b_is_items .nil passN (pa_cons (pv 2) (pa_cons (pe_tup (pa_cons (pe_tup (pa_cons pe_str pa_nil)) (pa_cons (pv 3) (pa_cons (pv 4) pa_nil)))) pa_nil))) pa_nil)))))
  (pss_cons (ps_set (i := 5) nd rfl (Or.inl rfl) (pe_op op_cat (pv 5) (pe_lst (pa_cons (pe_callG G_is_items (hr.down (by decide)) rfl T.m_is_items T.F_is_items.kp T.b_is_items .nil passN (pa_cons (pv 2) (pa_cons (pe_tup (pa_cons (pv 3) (pa_cons (pe_tup (pa_cons pe_str pa_nil)) (pa_cons (pe_tup (pa_cons pe_str (pa_cons pe_str (pa_cons (pe_tup (pa_cons pe_int (pa_cons pe_int pa_nil))) pa_nil)))) pa_nil)))) pa_nil))) (pa_cons (pe_callG G_is_items (hr.down (by decide)) rfl T.m_is_items T.F_is_items.kp T.b_is_items .nil passN (pa_cons (pv 2) (pa_cons (pe_tup pa_nil) pa_nil))) pa_nil)))))
  (pss_cons (ps_set (i := 5) nd rfl (Or.inl rfl) (pe_op op_cat (pv 5) (pe_lst (pa_cons (pe_callG G_is_items (hr.down (by decide)) rfl T.m_is_items T.F_is_items.kp T.b_is_items .nil passN (pa_cons (pv 2) (pa_cons (pe_tup (pa_cons (pv 3) (pa_cons (pe_tup (pa_cons pe_str (pa_cons pe_str (pa_cons (pe_tup (pa_cons pe_int (pa_cons pe_int pa_nil))) pa_nil)))) (pa_cons (pv 3) pa_nil)))) pa_nil))) (pa_cons (pe_callG G_is_items (hr.down (by decide)) rfl T.m_is_items T.F_is_items.kp T.b_is_items .nil passN (pa_cons (pv 2) (pa_cons (pe_lst (pa_cons (pv 3) pa_nil)) pa_nil))) pa_nil)))))
  (pss_cons (ps_set (i := 5) nd rfl (Or.inl rfl) (pe_op op_cat (pv 5) (pe_lst (pa_cons (pe_callG G_is_item (hr.down (by decide)) rfl T.m_is_item T.F_is_item.kp T.b_is_item .nil passN (pa_cons (pv 2) (pa_cons (pv 4) pa_nil))) (pa_cons (pe_callG G_is_row (hr.down (by decide)) rfl T.m_is_row T.F_is_row.kp T.b_is_row .nil passN (pa_cons (pv 2) (pa_cons (pe_tup (pa_cons pe_str (pa_cons pe_str (pa_cons pe_str pa_nil)))) pa_nil))) (pa_cons (pe_callG G_is_row (hr.down (by decide)) rfl T.m_is_row T.F_is_row.kp T.b_is_row .nil passN (pa_cons (pv 2) (pa_cons (pe_tup (pa_cons pe_str (pa_cons pe_str pa_nil))) pa_nil))) pa_nil))))))
  (pss_cons (ps_expr (pe_bm PySem.F.plainAttrs_list PySem.F.slot_list_append PySem.F.type_list_append mt_append (pv 5) (pa_cons (pe_callG G_is_row (hr.down (by decide)) rfl T.m_is_row T.F_is_row.kp T.b_is_row .nil passN (pa_cons (pv 2) (pa_cons (pe_tup pa_nil) pa_nil))) pa_nil)))
  (pss_one (ps_ret (pe_cmpR (op_eqD hr.r.units) (pv 5) (pe_lst (pa_consts (by rfl))) (nomark _))))))))))))), ?_⟩
  walk_at "s"
  refine l_forR (by repeat' split <;> omega) (by rw [List.length_map]; repeat' split <;> omega) (fun i τ G => ∃ z1 z2 z3 z4 z5 : Option V, τ = [some (.ref a), z1, z2, z3, z4, z5] ∧ SqL K G a (ns.map V.int) ∧ LamX.Tabs T.tabs G) ⟨none, none, none, none, none, rfl, hS, tabs⟩ (fun i τ G hi m => ?_) (fun τ G m => ?_)
  · obtain ⟨z1, z2, z3, z4, z5, rfl, hSG, tG⟩ := m
    walk_at "s"
    refine ⟨a, ns, (i : Int), rfl, hSG, by omega, fun d G0 nd0 s0 hd => ?_⟩
    walk_at "s"
    refine ⟨d, rfl, hd, tG.ext s0, fun J2 x2 t2 => l_bl (i_f rfl ?_)⟩
    exact ⟨_, _, _, _, _, rfl, script_ex hSG nd0 s0 x2, t2⟩
  · obtain ⟨z1, z2, z3, z4, z5, rfl, hSG, tG⟩ := m
    clear hSG tG hS tabs
    walk_at "s"
    refine l_newT (xs := [.str "full", .str "room"]) (by show 2 ≤ sizeLine; decide) fun t1 J1 n1 s1 e1 => ?_
    walk_at "s"
    refine l_newT (xs := [.int 1, .ref t1]) (by show 2 ≤ sizeLine; decide) fun t2 J2 n2 s2 e2 => ?_
    walk_at "s"
    refine l_newT (xs := [.str "ok"]) (by show 1 ≤ sizeLine; decide) fun t3 J3 n3 s3 e3 => ?_
    walk_at "s"
    refine l_newT (xs := [.int 2, .ref t3]) (by show 2 ≤ sizeLine; decide) fun t4 J4 n4 s4 e4 => ?_
    have raw : RawB bL := by
      refine ⟨by show ([("look" : Str), "put"]).Nodup; decide +kernel, fun x hx => ?_, fun x hx => ?_, by show 1 ≤ 2; decide, by show 2 ≤ 6; decide⟩
      · unfold bL at hx
        simp only [List.mem_cons, List.not_mem_nil, or_false] at hx
        rcases hx with rfl | rfl
        · show answerB1 ("look" : Str) = true
          decide +kernel
        · show answerB1 ("put" : Str) = true
          decide +kernel
      · unfold bL at hx
        simp only [List.mem_cons, List.not_mem_nil, or_false] at hx
        rcases hx with rfl | rfl
        · refine ⟨by show 1 ≤ 2; decide, ?_, by show 1 ≤ 2; decide, by show 2 ≤ 3; decide, fun s hs => ?_⟩
          · refine List.pairwise_cons.mpr ⟨fun y hy => ?_, List.pairwise_singleton _ _⟩
            rw [List.mem_singleton.mp hy]
            decide +kernel
          · simp only [List.mem_cons, List.not_mem_nil, or_false] at hs
            rcases hs with rfl | rfl
            · decide +kernel
            · decide +kernel
        · refine ⟨by show 2 ≤ 2; decide, List.pairwise_singleton _ _, by show 1 ≤ 1; decide, by show 1 ≤ 3; decide, fun s hs => ?_⟩
          rw [List.mem_singleton.mp hs]
          decide +kernel
    have rows4 : RowsAt J4 (kwV ["look", "put"] [.ref t2, .ref t4]) bL :=
      .cons ⟨rfl, t2, t1, rfl, (s3.trans s4) _ _ e2, ((s2.trans s3).trans s4) _ _ e1⟩ (.cons ⟨rfl, t4, t3, rfl, e4, s4 _ _ e3⟩ .nil)
    walk_at "s"
    refine l_makeBook rfl rows4 raw fun bk J5 nb s5 bkA => ?_
    have srt : sortB bL = bL := GoodB.sorted ⟨raw, by
      show Asc [("look" : Str), "put"]
      refine List.pairwise_cons.mpr ⟨fun y hy => ?_, List.pairwise_singleton _ _⟩
      rw [List.mem_singleton.mp hy]
      decide +kernel⟩
    rw [srt] at bkA
    walk_at "s"
    refine l_newT (xs := [.non]) (by show 1 ≤ sizeLine; decide) fun f1 J6 n6 s6 e6 => ?_
    walk_at "s"
    refine l_newT (xs := [.str "send", .str "look", .ref f1]) (by show 3 ≤ sizeLine; decide) fun f J7 n7 s7 e7 => ?_
    walk_at "s"
    refine l_newT (xs := [.int 0, .str "who"]) (by show 2 ≤ sizeLine; decide) fun h1 J8 n8 s8 e8 => ?_
    walk_at "s"
    refine l_newT (xs := [.str "send", .str "put", .ref h1]) (by show 3 ≤ sizeLine; decide) fun th J9 n9 s9 e9 => ?_
    walk_at "s"
    refine l_newT (xs := [.ref f, .ref th]) (by show 2 ≤ sizeLine; decide) fun pr J10 n10 s10 e10 => ?_
    refine l_pair (tup_at e10) ?_
    have s79 := (s7.trans s8).trans s9
    have bk10 := bkA.same ((((s6.trans s7).trans s8).trans s9).trans s10)
    have dF : Dat bk J10 (.ref f) tF := .tup (((s8.trans s9).trans s10) _ _ e7) (.cons (.str _) (.cons (.str _) (.cons (.tup ((s79.trans s10) _ _ e6) (.cons .non .nil)) .nil)))
    have dT : Dat bk J10 (.ref th) tT := .tup (s10 _ _ e9) (.cons (.str _) (.cons (.str _) (.cons (.tup ((s9.trans s10) _ _ e8) (.cons (.int 0) (.cons (.str _) .nil))) .nil)))
    obtain ⟨dxb, fsb, ibk, _⟩ := bk10.ins
    clear rows4 bkA e1 e2 e3 e4 e6 e7 e8 e9 e10
    walk_at "s"
    have S10 : Same J10 J10 := Same.refl J10
    refine l_newT (xs := [.ref f, .ref th]) (by show 2 ≤ sizeLine; decide) fun u1 J11 n11 s11 e11 => ?_
    have S11 := S10.trans s11
    walk_at "s"
    refine ⟨bk, .ref bk, .ref u1, (.tuple [tF, tT]), rfl, Or.inl ⟨bk, bL, rfl, (bk10.same S11).rd, (.tup e11 (.cons (dF.same S11) (.cons (dT.same S11) .nil))), (.tup (.cons txF (.cons txT .nil)) (by decide)), fun J12 s12 => ?_⟩⟩
    have S12 := S11.trans s12
    rw [v1]
    walk_at "s"
    refine l_newT (xs := [.ref th, .ref f]) (by show 2 ≤ sizeLine; decide) fun u2 J13 n13 s13 e13 => ?_
    have S13 := S12.trans s13
    walk_at "s"
    refine ⟨bk, .ref bk, .ref u2, (.tuple [tT, tF]), rfl, Or.inl ⟨bk, bL, rfl, (bk10.same S13).rd, (.tup e13 (.cons (dT.same S13) (.cons (dF.same S13) .nil))), (.tup (.cons txT (.cons txF .nil)) (by decide)), fun J14 s14 => ?_⟩⟩
    have S14 := S13.trans s14
    rw [v2]
    walk_at "s"
    refine l_newT (xs := [.str "mark"]) (by show 1 ≤ sizeLine; decide) fun m1 J15 n15 s15 e15 => ?_
    have S15 := S14.trans s15
    walk_at "s"
    refine l_newT (xs := [.ref m1, .ref f, .ref th]) (by show 3 ≤ sizeLine; decide) fun u3 J16 n16 s16 e16 => ?_
    have S16 := S15.trans s16
    walk_at "s"
    refine ⟨bk, .ref bk, .ref u3, (.tuple [tM, tF, tT]), rfl, Or.inl ⟨bk, bL, rfl, (bk10.same S16).rd, (.tup e16 (.cons (.tup (s16 _ _ e15) (.cons (.str _) .nil)) (.cons (dF.same S16) (.cons (dT.same S16) .nil)))), (.tup (.cons txM (.cons txF (.cons txT .nil))) (by decide)), fun J17 s17 => ?_⟩⟩
    have S17 := S16.trans s17
    rw [v3]
    walk_at "s"
    refine l_newL (xs := [V.bl true, .bl false, .bl false]) (by show 3 ≤ sizeLine; decide) fun L1 J18 n18 s18 e18 => ?_
    have S18 := S17.trans s18
    walk_at "s"
    refine l_newT (xs := [.str "mark"]) (by show 1 ≤ sizeLine; decide) fun m2 J19 n19 s19 e19 => ?_
    have S19 := S18.trans s19
    walk_at "s"
    refine l_newT (xs := [.int 0, .int 1]) (by show 2 ≤ sizeLine; decide) fun i2 J20 n20 s20 e20 => ?_
    have S20 := S19.trans s20
    walk_at "s"
    refine l_newT (xs := [.str "send", .str "put", .ref i2]) (by show 3 ≤ sizeLine; decide) fun g2 J21 n21 s21 e21 => ?_
    have S21 := S20.trans s21
    walk_at "s"
    refine l_newT (xs := [.ref f, .ref m2, .ref g2]) (by show 3 ≤ sizeLine; decide) fun u4 J22 n22 s22 e22 => ?_
    have S22 := S21.trans s22
    walk_at "s"
    refine ⟨bk, .ref bk, .ref u4, (.tuple [tF, tM, tS 1]), rfl, Or.inl ⟨bk, bL, rfl, (bk10.same S22).rd, (.tup e22 (.cons (dF.same S22) (.cons (.tup (((s20.trans s21).trans s22) _ _ e19) (.cons (.str _) .nil)) (.cons (.tup (s22 _ _ e21) (.cons (.str _) (.cons (.str _) (.cons (.tup ((s21.trans s22) _ _ e20) (.cons (.int 0) (.cons (.int 1) .nil))) .nil)))) .nil)))), (.tup (.cons txF (.cons txM (.cons (txS 1) .nil))) (by decide)), fun J23 s23 => ?_⟩⟩
    have S23 := S22.trans s23
    rw [v4]
    walk_at "s"
    refine l_newT (xs := []) (by show 0 ≤ sizeLine; decide) fun u5 J24 n24 s24 e24 => ?_
    have S24 := S23.trans s24
    walk_at "s"
    refine ⟨bk, .ref bk, .ref u5, (.tuple []), rfl, Or.inl ⟨bk, bL, rfl, (bk10.same S24).rd, (.tup e24 .nil), (.tup .nil (by decide)), fun J25 s25 => ?_⟩⟩
    have S25 := S24.trans s25
    rw [v5]
    walk_at "s"
    refine l_newL (xs := [V.bl false, .bl true]) (by show 2 ≤ sizeLine; decide) fun L2 J26 n26 s26 e26 => ?_
    have S26 := S25.trans s26
    refine l_cat ((((((((s19.trans s20).trans s21).trans s22).trans s23).trans s24).trans s25).trans s26) _ _ e18) e26 (by rw [sizeLine_eq]; decide) fun L3 J27 n27 s27 e27 => ?_
    have S27 := S26.trans s27
    walk_at "s"
    refine l_newT (xs := [.int 0, .int 2]) (by show 2 ≤ sizeLine; decide) fun i3 J28 n28 s28 e28 => ?_
    have S28 := S27.trans s28
    walk_at "s"
    refine l_newT (xs := [.str "send", .str "put", .ref i3]) (by show 3 ≤ sizeLine; decide) fun g3 J29 n29 s29 e29 => ?_
    have S29 := S28.trans s29
    walk_at "s"
    refine l_newT (xs := [.ref f, .ref g3, .ref f]) (by show 3 ≤ sizeLine; decide) fun u6 J30 n30 s30 e30 => ?_
    have S30 := S29.trans s30
    walk_at "s"
    refine ⟨bk, .ref bk, .ref u6, (.tuple [tF, tS 2, tF]), rfl, Or.inl ⟨bk, bL, rfl, (bk10.same S30).rd, (.tup e30 (.cons (dF.same S30) (.cons (.tup (s30 _ _ e29) (.cons (.str _) (.cons (.str _) (.cons (.tup ((s29.trans s30) _ _ e28) (.cons (.int 0) (.cons (.int 2) .nil))) .nil)))) (.cons (dF.same S30) .nil)))), (.tup (.cons txF (.cons (txS 2) (.cons txF .nil))) (by decide)), fun J31 s31 => ?_⟩⟩
    have S31 := S30.trans s31
    rw [v6]
    walk_at "s"
    refine l_newL (xs := [.ref f]) (by show 1 ≤ sizeLine; decide) fun u7 J32 n32 s32 e32 => ?_
    have S32 := S31.trans s32
    walk_at "s"
    refine ⟨bk, .ref bk, .ref u7, (.list [tF]), rfl, Or.inl ⟨bk, bL, rfl, (bk10.same S32).rd, (.lst e32 (fun q => by rw [q] at n32; have := S31 _ _ ibk; rw [this] at n32; cases n32) (.cons (dF.same S32) .nil)), (.lst (.cons txF .nil) (by decide)), fun J33 s33 => ?_⟩⟩
    have S33 := S32.trans s33
    rw [v7]
    walk_at "s"
    refine l_newL (xs := [V.bl false, .bl false]) (by show 2 ≤ sizeLine; decide) fun L4 J34 n34 s34 e34 => ?_
    have S34 := S33.trans s34
    refine l_cat (((((((s28.trans s29).trans s30).trans s31).trans s32).trans s33).trans s34) _ _ e27) e34 (by rw [sizeLine_eq]; decide) fun L5 J35 n35 s35 e35 => ?_
    have S35 := S34.trans s35
    walk_at "s"
    walk_at "s"
    refine ⟨bk, .ref bk, .ref th, tT, rfl, Or.inl ⟨bk, bL, rfl, (bk10.same S35).rd, (dT.same S35), txT, fun J36 s36 => ?_⟩⟩
    have S36 := S35.trans s36
    rw [v8]
    walk_at "s"
    refine l_newT (xs := [.str "full", .str "ok", .str "failed"]) (by show 3 ≤ sizeLine; decide) fun u9 J37 n37 s37 e37 => ?_
    have S37 := S36.trans s37
    walk_at "s"
    refine ⟨bk, .ref bk, .ref u9, (.tuple [.str "full", .str "ok", .str "failed"]), rfl, Or.inl ⟨bk, bL, rfl, (bk10.same S37), (.tup e37 (.cons (.str _) (.cons (.str _) (.cons (.str _) .nil)))), (.tup (.cons (.str (by decide +kernel)) (.cons (.str (by decide +kernel)) (.cons (.str (by decide +kernel)) .nil))) (by decide)), fun J38 s38 => ?_⟩⟩
    have S38 := S37.trans s38
    rw [v9]
    walk_at "s"
    refine l_newT (xs := [.str "full", .str "kept"]) (by show 2 ≤ sizeLine; decide) fun u10 J39 n39 s39 e39 => ?_
    have S39 := S38.trans s39
    walk_at "s"
    refine ⟨bk, .ref bk, .ref u10, (.tuple [.str "full", .str "kept"]), rfl, Or.inl ⟨bk, bL, rfl, (bk10.same S39), (.tup e39 (.cons (.str _) (.cons (.str _) .nil))), (.tup (.cons (.str (by decide +kernel)) (.cons (.str (by decide +kernel)) .nil)) (by decide)), fun J40 s40 => ?_⟩⟩
    have S40 := S39.trans s40
    rw [v10]
    walk_at "s"
    refine l_newL (xs := [V.bl true, .bl true, .bl false]) (by show 3 ≤ sizeLine; decide) fun L6 J41 n41 s41 e41 => ?_
    have S41 := S40.trans s41
    refine l_cat ((((((s36.trans s37).trans s38).trans s39).trans s40).trans s41) _ _ e35) e41 (by rw [sizeLine_eq]; decide) fun L7 J42 n42 s42 e42 => ?_
    have S42 := S41.trans s42
    walk_at "s"
    refine ⟨.ref L7, rfl, Or.inl ⟨rfl, _, SqL.of e42⟩, ?_⟩
    walk_at "s"
    refine l_newT (xs := []) (by show 0 ≤ sizeLine; decide) fun u11 J43 n43 s43 e43 => ?_
    have S43 := S42.trans s43
    walk_at "s"
    refine ⟨bk, .ref bk, .ref u11, (.tuple []), rfl, Or.inl ⟨bk, bL, rfl, (bk10.same S43), (.tup e43 .nil), (.tup .nil (by decide)), fun J44 s44 => ?_⟩⟩
    have S44 := S43.trans s44
    rw [v11]
    walk_at "s"
    have eT : J44 L7 = some (.lst [V.bl true, .bl false, .bl false, .bl false, .bl true, .bl false, .bl false, .bl true, .bl true, .bl false]) := (s43.trans s44) _ _ e42
    refine ⟨L7, _, .bl true, rfl, rfl, eT, by show 10 < sizeLine; decide, ?_⟩
    walk_at "s"
    refine l_newL (xs := [V.bl true, .bl false, .bl false, .bl false, .bl true, .bl false, .bl false, .bl true, .bl true, .bl false, .bl true]) (by show 11 ≤ sizeLine; decide) fun Lz Jz nz sz ez => ?_
    have eZ : Jz L7 = some (.lst [V.bl true, .bl false, .bl false, .bl false, .bl true, .bl false, .bl false, .bl true, .bl true, .bl false, .bl true]) := sz _ _ upd_same
    have dz : ∀ l : List Bool, DpAll K Jz (l.map V.bl) (l.map PyData.bool) := fun l => by
      induction l with
      | nil => exact .nil
      | cons b l ih => exact .cons (.bl b) ih
    refine l_eqD (.lst (SqL.of eZ) (dz [true, false, false, false, true, false, false, true, true, false, true])) (.lst (SqL.of ez) (dz [true, false, false, false, true, false, false, true, true, false, true])) (by decide +kernel) (by decide +kernel) ?_
    rw [show PyData.eqv (.list ([true, false, false, false, true, false, false, true, true, false, true].map PyData.bool)) (.list ([true, false, false, false, true, false, false, true, true, false, true].map PyData.bool)) = true from by decide +kernel]
    exact k Jz
end
set_option maxHeartbeats 4000000 in
theorem all_mk {w : World} {K : PySem.W.Frag} {h : Heap} {mg : Str → Option Value} {fa : Addr} (X : K.In h) (G : h.Ns mainGlobals mg) (hfa : mg "law" = some (.ref fa))
    {f0 : Addr} {od0 an0 : Option Addr} {sl0 : Array (Option Value)} {oc0 kV0 dc0 pm0 cd0 ct0 : Value}
    {f1 : Addr} {od1 an1 : Option Addr} {sl1 : Array (Option Value)} {oc1 kV1 dc1 pm1 cd1 ct1 : Value}
    {f2 : Addr} {od2 an2 : Option Addr} {sl2 : Array (Option Value)} {oc2 kV2 dc2 pm2 cd2 ct2 : Value}
    {f3 : Addr} {od3 an3 : Option Addr} {sl3 : Array (Option Value)} {oc3 kV3 dc3 pm3 cd3 ct3 : Value}
    {f4 : Addr} {od4 an4 : Option Addr} {sl4 : Array (Option Value)} {oc4 kV4 dc4 pm4 cd4 ct4 : Value}
    {f5 : Addr} {od5 an5 : Option Addr} {sl5 : Array (Option Value)} {oc5 kV5 dc5 pm5 cd5 ct5 : Value}
    {f6 : Addr} {od6 an6 : Option Addr} {sl6 : Array (Option Value)} {oc6 kV6 dc6 pm6 cd6 ct6 : Value}
    {f7 : Addr} {od7 an7 : Option Addr} {sl7 : Array (Option Value)} {oc7 kV7 dc7 pm7 cd7 ct7 : Value}
    {f8 : Addr} {od8 an8 : Option Addr} {sl8 : Array (Option Value)} {oc8 kV8 dc8 pm8 cd8 ct8 : Value}
    {f9 : Addr} {od9 an9 : Option Addr} {sl9 : Array (Option Value)} {oc9 kV9 dc9 pm9 cd9 ct9 : Value}
    {f10 : Addr} {od10 an10 : Option Addr} {sl10 : Array (Option Value)} {oc10 kV10 dc10 pm10 cd10 ct10 : Value}
    {f11 : Addr} {od11 an11 : Option Addr} {sl11 : Array (Option Value)} {oc11 kV11 dc11 pm11 cd11 ct11 : Value}
    {f12 : Addr} {od12 an12 : Option Addr} {sl12 : Array (Option Value)} {oc12 kV12 dc12 pm12 cd12 ct12 : Value}
    {f13 : Addr} {od13 an13 : Option Addr} {sl13 : Array (Option Value)} {oc13 kV13 dc13 pm13 cd13 ct13 : Value}
    {f14 : Addr} {od14 an14 : Option Addr} {sl14 : Array (Option Value)} {oc14 kV14 dc14 pm14 cd14 ct14 : Value}
    {f15 : Addr} {od15 an15 : Option Addr} {sl15 : Array (Option Value)} {oc15 kV15 dc15 pm15 cd15 ct15 : Value}
    {f16 : Addr} {od16 an16 : Option Addr} {sl16 : Array (Option Value)} {oc16 kV16 dc16 pm16 cd16 ct16 : Value}
    {f17 : Addr} {od17 an17 : Option Addr} {sl17 : Array (Option Value)} {oc17 kV17 dc17 pm17 cd17 ct17 : Value}
    {f18 : Addr} {od18 an18 : Option Addr} {sl18 : Array (Option Value)} {oc18 kV18 dc18 pm18 cd18 ct18 : Value}
    {f19 : Addr} {od19 an19 : Option Addr} {sl19 : Array (Option Value)} {oc19 kV19 dc19 pm19 cd19 ct19 : Value}
    {f20 : Addr} {od20 an20 : Option Addr} {sl20 : Array (Option Value)} {oc20 kV20 dc20 pm20 cd20 ct20 : Value}
    {f21 : Addr} {od21 an21 : Option Addr} {sl21 : Array (Option Value)} {oc21 kV21 dc21 pm21 cd21 ct21 : Value}
    {f22 : Addr} {od22 an22 : Option Addr} {sl22 : Array (Option Value)} {oc22 kV22 dc22 pm22 cd22 ct22 : Value}
    {f23 : Addr} {od23 an23 : Option Addr} {sl23 : Array (Option Value)} {oc23 kV23 dc23 pm23 cd23 ct23 : Value}
    {f24 : Addr} {od24 an24 : Option Addr} {sl24 : Array (Option Value)} {oc24 kV24 dc24 pm24 cd24 ct24 : Value}
    {f25 : Addr} {od25 an25 : Option Addr} {sl25 : Array (Option Value)} {oc25 kV25 dc25 pm25 cd25 ct25 : Value}
    {f26 : Addr} {od26 an26 : Option Addr} {sl26 : Array (Option Value)} {oc26 kV26 dc26 pm26 cd26 ct26 : Value}
    {f27 : Addr} {od27 an27 : Option Addr} {sl27 : Array (Option Value)} {oc27 kV27 dc27 pm27 cd27 ct27 : Value}
    {f28 : Addr} {od28 an28 : Option Addr} {sl28 : Array (Option Value)} {oc28 kV28 dc28 pm28 cd28 ct28 : Value}
    {f29 : Addr} {od29 an29 : Option Addr} {sl29 : Array (Option Value)} {oc29 kV29 dc29 pm29 cd29 ct29 : Value}
    {f30 : Addr} {od30 an30 : Option Addr} {sl30 : Array (Option Value)} {oc30 kV30 dc30 pm30 cd30 ct30 : Value}
    {f31 : Addr} {od31 an31 : Option Addr} {sl31 : Array (Option Value)} {oc31 kV31 dc31 pm31 cd31 ct31 : Value}
    {f32 : Addr} {od32 an32 : Option Addr} {sl32 : Array (Option Value)} {oc32 kV32 dc32 pm32 cd32 ct32 : Value}
    {f33 : Addr} {od33 an33 : Option Addr} {sl33 : Array (Option Value)} {oc33 kV33 dc33 pm33 cd33 ct33 : Value}
    {f34 : Addr} {od34 an34 : Option Addr} {sl34 : Array (Option Value)} {oc34 kV34 dc34 pm34 cd34 ct34 : Value}
    {f35 : Addr} {od35 an35 : Option Addr} {sl35 : Array (Option Value)} {oc35 kV35 dc35 pm35 cd35 ct35 : Value}
    {f36 : Addr} {od36 an36 : Option Addr} {sl36 : Array (Option Value)} {oc36 kV36 dc36 pm36 cd36 ct36 : Value}
    {f37 : Addr} {od37 an37 : Option Addr} {sl37 : Array (Option Value)} {oc37 kV37 dc37 pm37 cd37 ct37 : Value}
    {f38 : Addr} {od38 an38 : Option Addr} {sl38 : Array (Option Value)} {oc38 kV38 dc38 pm38 ct38 : Value} {co__law_right tb__law_right : Addr} {cdo__law_right : Option Addr} {cvs__law_right : Array Value} {csl__law_right : Array (Option Value)}
    {f39 : Addr} {od39 an39 : Option Addr} {sl39 : Array (Option Value)} {oc39 kV39 dc39 pm39 cd39 ct39 : Value}
    {f40 : Addr} {od40 an40 : Option Addr} {sl40 : Array (Option Value)} {oc40 kV40 dc40 pm40 cd40 ct40 : Value}
    {K_Book : Addr}
    {f41 : Addr} {od41 an41 : Option Addr} {sl41 : Array (Option Value)} {oc41 kV41 dc41 pm41 cd41 ct41 : Value}
    {p41 : Addr} {pd41 : Option Addr} {ps41 : Array (Option Value)} {pv41 : Array Value}
    {f42 : Addr} {od42 an42 : Option Addr} {sl42 : Array (Option Value)} {oc42 kV42 dc42 pm42 cd42 ct42 : Value}
    {p42 : Addr} {pd42 : Option Addr} {ps42 : Array (Option Value)} {pv42 : Array Value}
    {f43 : Addr} {od43 an43 : Option Addr} {sl43 : Array (Option Value)} {oc43 kV43 dc43 pm43 cd43 ct43 : Value}
    {f44 : Addr} {od44 an44 : Option Addr} {sl44 : Array (Option Value)} {oc44 kV44 dc44 pm44 cd44 ct44 : Value}
    {f45 : Addr} {od45 an45 : Option Addr} {sl45 : Array (Option Value)} {oc45 kV45 dc45 pm45 cd45 ct45 : Value}
    {f46 : Addr} {od46 an46 : Option Addr} {sl46 : Array (Option Value)} {oc46 kV46 dc46 pm46 cd46 ct46 : Value}
    {f47 : Addr} {od47 an47 : Option Addr} {sl47 : Array (Option Value)} {oc47 kV47 dc47 pm47 cd47 ct47 : Value}
    {f48 : Addr} {od48 an48 : Option Addr} {sl48 : Array (Option Value)} {oc48 kV48 dc48 pm48 cd48 ct48 : Value}
    {f49 : Addr} {od49 an49 : Option Addr} {sl49 : Array (Option Value)} {oc49 kV49 dc49 pm49 cd49 ct49 : Value}
    {f50 : Addr} {od50 an50 : Option Addr} {sl50 : Array (Option Value)} {oc50 kV50 dc50 pm50 cd50 ct50 : Value}
    {f51 : Addr} {od51 an51 : Option Addr} {sl51 : Array (Option Value)} {oc51 kV51 dc51 pm51 cd51 ct51 : Value}
    {f52 : Addr} {od52 an52 : Option Addr} {sl52 : Array (Option Value)} {oc52 kV52 dc52 pm52 cd52 ct52 : Value}
    {f53 : Addr} {od53 an53 : Option Addr} {sl53 : Array (Option Value)} {oc53 kV53 dc53 pm53 cd53 ct53 : Value}
    {f54 : Addr} {od54 an54 : Option Addr} {sl54 : Array (Option Value)} {oc54 kV54 dc54 pm54 cd54 ct54 : Value}
    {t_MAX_LETTERS : Tok}
    {p_RESERVED : Addr} {n_RESERVED : Nat} {sl_RESERVED : Array (Option Value)} {od_RESERVED : Option Addr} {t0_RESERVED : Tok} {t1_RESERVED : Tok} {t2_RESERVED : Tok} {t3_RESERVED : Tok}
    {t_MAX_COMMANDS : Tok}
    {t_MAX_TAKES : Tok}
    {t_MAX_ANSWERS : Tok}
    {p_MARK : Addr} {n_MARK : Nat} {sl_MARK : Array (Option Value)} {od_MARK : Option Addr} {t0_MARK : Tok}
    {C_AheadError : Addr}
    {C_InvalidBook : Addr}
    {C_InvalidOperation : Addr}
    {C_UnknownName : Addr}
    {I_UnknownName ca_UnknownName cc_UnknownName : Addr} {odi_UnknownName ani_UnknownName cdd_UnknownName cld_UnknownName : Option Addr} {sli_UnknownName ccs_UnknownName csl_UnknownName : Array (Option Value)} {oci_UnknownName kVi_UnknownName dci_UnknownName pmi_UnknownName cti_UnknownName ccl_UnknownName cl_UnknownName : Value} {vs_UnknownName : Array Value} {fi_UnknownName : Str} {tf_UnknownName : Tok}
    (z_super : PySem.W.nsIn K mainGlobals "super" = some none)
    (a0 : PySem.W.nsIn K mainGlobals "_wall" = some (some (.ref f0))) (l0 : K.lookup f0 = some ⟨oc0, od0, .func (PySem.W.fnOf "_wall" "_wall" (defArgs s__wall) (defBody s__wall) (defScope s__wall) .none kV0 dc0 pm0 an0 cd0 ct0), sl0⟩) (c0 : PySem.W.codeIn K cd0 "_wall" = true) (k0 : PySem.W.keepIn K (.ref f0) = true)
    (a1 : PySem.W.nsIn K mainGlobals "is_count" = some (some (.ref f1))) (l1 : K.lookup f1 = some ⟨oc1, od1, .func (PySem.W.fnOf "is_count" "is_count" (defArgs s_is_count) (defBody s_is_count) (defScope s_is_count) .none kV1 dc1 pm1 an1 cd1 ct1), sl1⟩) (c1 : PySem.W.codeIn K cd1 "is_count" = true) (k1 : PySem.W.keepIn K (.ref f1) = true)
    (a2 : PySem.W.nsIn K mainGlobals "is_name" = some (some (.ref f2))) (l2 : K.lookup f2 = some ⟨oc2, od2, .func (PySem.W.fnOf "is_name" "is_name" (defArgs s_is_name) (defBody s_is_name) (defScope s_is_name) .none kV2 dc2 pm2 an2 cd2 ct2), sl2⟩) (c2 : PySem.W.codeIn K cd2 "is_name" = true) (k2 : PySem.W.keepIn K (.ref f2) = true)
    (a3 : PySem.W.nsIn K mainGlobals "is_answer" = some (some (.ref f3))) (l3 : K.lookup f3 = some ⟨oc3, od3, .func (PySem.W.fnOf "is_answer" "is_answer" (defArgs s_is_answer) (defBody s_is_answer) (defScope s_is_answer) .none kV3 dc3 pm3 an3 cd3 ct3), sl3⟩) (c3 : PySem.W.codeIn K cd3 "is_answer" = true) (k3 : PySem.W.keepIn K (.ref f3) = true)
    (a4 : PySem.W.nsIn K mainGlobals "is_names" = some (some (.ref f4))) (l4 : K.lookup f4 = some ⟨oc4, od4, .func (PySem.W.fnOf "is_names" "is_names" (defArgs s_is_names) (defBody s_is_names) (defScope s_is_names) .none kV4 dc4 pm4 an4 cd4 ct4), sl4⟩) (c4 : PySem.W.codeIn K cd4 "is_names" = true) (k4 : PySem.W.keepIn K (.ref f4) = true)
    (a5 : PySem.W.nsIn K mainGlobals "book_with" = some (some (.ref f5))) (l5 : K.lookup f5 = some ⟨oc5, od5, .func (PySem.W.fnOf "book_with" "book_with" (defArgs s_book_with) (defBody s_book_with) (defScope s_book_with) .none kV5 dc5 pm5 an5 cd5 ct5), sl5⟩) (c5 : PySem.W.codeIn K cd5 "book_with" = true) (k5 : PySem.W.keepIn K (.ref f5) = true)
    (a6 : PySem.W.nsIn K mainGlobals "outcomes_in" = some (some (.ref f6))) (l6 : K.lookup f6 = some ⟨oc6, od6, .func (PySem.W.fnOf "outcomes_in" "outcomes_in" (defArgs s_outcomes_in) (defBody s_outcomes_in) (defScope s_outcomes_in) .none kV6 dc6 pm6 an6 cd6 ct6), sl6⟩) (c6 : PySem.W.codeIn K cd6 "outcomes_in" = true) (k6 : PySem.W.keepIn K (.ref f6) = true)
    (a7 : PySem.W.nsIn K mainGlobals "pairs_of" = some (some (.ref f7))) (l7 : K.lookup f7 = some ⟨oc7, od7, .func (PySem.W.fnOf "pairs_of" "pairs_of" (defArgs s_pairs_of) (defBody s_pairs_of) (defScope s_pairs_of) .none kV7 dc7 pm7 an7 cd7 ct7), sl7⟩) (c7 : PySem.W.codeIn K cd7 "pairs_of" = true) (k7 : PySem.W.keepIn K (.ref f7) = true)
    (a8 : PySem.W.nsIn K mainGlobals "checked_pairs" = some (some (.ref f8))) (l8 : K.lookup f8 = some ⟨oc8, od8, .func (PySem.W.fnOf "checked_pairs" "checked_pairs" (defArgs s_checked_pairs) (defBody s_checked_pairs) (defScope s_checked_pairs) .none kV8 dc8 pm8 an8 cd8 ct8), sl8⟩) (c8 : PySem.W.codeIn K cd8 "checked_pairs" = true) (k8 : PySem.W.keepIn K (.ref f8) = true)
    (a9 : PySem.W.nsIn K mainGlobals "is_pair" = some (some (.ref f9))) (l9 : K.lookup f9 = some ⟨oc9, od9, .func (PySem.W.fnOf "is_pair" "is_pair" (defArgs s_is_pair) (defBody s_is_pair) (defScope s_is_pair) .none kV9 dc9 pm9 an9 cd9 ct9), sl9⟩) (c9 : PySem.W.codeIn K cd9 "is_pair" = true) (k9 : PySem.W.keepIn K (.ref f9) = true)
    (a10 : PySem.W.nsIn K mainGlobals "need_book" = some (some (.ref f10))) (l10 : K.lookup f10 = some ⟨oc10, od10, .func (PySem.W.fnOf "need_book" "need_book" (defArgs s_need_book) (defBody s_need_book) (defScope s_need_book) .none kV10 dc10 pm10 an10 cd10 ct10), sl10⟩) (c10 : PySem.W.codeIn K cd10 "need_book" = true) (k10 : PySem.W.keepIn K (.ref f10) = true)
    (a11 : PySem.W.nsIn K mainGlobals "is_item" = some (some (.ref f11))) (l11 : K.lookup f11 = some ⟨oc11, od11, .func (PySem.W.fnOf "is_item" "is_item" (defArgs s_is_item) (defBody s_is_item) (defScope s_is_item) .none kV11 dc11 pm11 an11 cd11 ct11), sl11⟩) (c11 : PySem.W.codeIn K cd11 "is_item" = true) (k11 : PySem.W.keepIn K (.ref f11) = true)
    (a12 : PySem.W.nsIn K mainGlobals "is_item_with" = some (some (.ref f12))) (l12 : K.lookup f12 = some ⟨oc12, od12, .func (PySem.W.fnOf "is_item_with" "is_item_with" (defArgs s_is_item_with) (defBody s_is_item_with) (defScope s_is_item_with) .none kV12 dc12 pm12 an12 cd12 ct12), sl12⟩) (c12 : PySem.W.codeIn K cd12 "is_item_with" = true) (k12 : PySem.W.keepIn K (.ref f12) = true)
    (a13 : PySem.W.nsIn K mainGlobals "is_items" = some (some (.ref f13))) (l13 : K.lookup f13 = some ⟨oc13, od13, .func (PySem.W.fnOf "is_items" "is_items" (defArgs s_is_items) (defBody s_is_items) (defScope s_is_items) .none kV13 dc13 pm13 an13 cd13 ct13), sl13⟩) (c13 : PySem.W.codeIn K cd13 "is_items" = true) (k13 : PySem.W.keepIn K (.ref f13) = true)
    (a14 : PySem.W.nsIn K mainGlobals "is_row" = some (some (.ref f14))) (l14 : K.lookup f14 = some ⟨oc14, od14, .func (PySem.W.fnOf "is_row" "is_row" (defArgs s_is_row) (defBody s_is_row) (defScope s_is_row) .none kV14 dc14 pm14 an14 cd14 ct14), sl14⟩) (c14 : PySem.W.codeIn K cd14 "is_row" = true) (k14 : PySem.W.keepIn K (.ref f14) = true)
    (a15 : PySem.W.nsIn K mainGlobals "is_argument" = some (some (.ref f15))) (l15 : K.lookup f15 = some ⟨oc15, od15, .func (PySem.W.fnOf "is_argument" "is_argument" (defArgs s_is_argument) (defBody s_is_argument) (defScope s_is_argument) .none kV15 dc15 pm15 an15 cd15 ct15), sl15⟩) (c15 : PySem.W.codeIn K cd15 "is_argument" = true) (k15 : PySem.W.keepIn K (.ref f15) = true)
    (a16 : PySem.W.nsIn K mainGlobals "can_stand" = some (some (.ref f16))) (l16 : K.lookup f16 = some ⟨oc16, od16, .func (PySem.W.fnOf "can_stand" "can_stand" (defArgs s_can_stand) (defBody s_can_stand) (defScope s_can_stand) .none kV16 dc16 pm16 an16 cd16 ct16), sl16⟩) (c16 : PySem.W.codeIn K cd16 "can_stand" = true) (k16 : PySem.W.keepIn K (.ref f16) = true)
    (a17 : PySem.W.nsIn K mainGlobals "is_behind" = some (some (.ref f17))) (l17 : K.lookup f17 = some ⟨oc17, od17, .func (PySem.W.fnOf "is_behind" "is_behind" (defArgs s_is_behind) (defBody s_is_behind) (defScope s_is_behind) .none kV17 dc17 pm17 an17 cd17 ct17), sl17⟩) (c17 : PySem.W.codeIn K cd17 "is_behind" = true) (k17 : PySem.W.keepIn K (.ref f17) = true)
    (a18 : PySem.W.nsIn K mainGlobals "_law_dice" = some (some (.ref f18))) (l18 : K.lookup f18 = some ⟨oc18, od18, .func (PySem.W.fnOf "_law_dice" "_law_dice" (defArgs s__law_dice) (defBody s__law_dice) (defScope s__law_dice) .none kV18 dc18 pm18 an18 cd18 ct18), sl18⟩) (c18 : PySem.W.codeIn K cd18 "_law_dice" = true) (k18 : PySem.W.keepIn K (.ref f18) = true)
    (a19 : PySem.W.nsIn K mainGlobals "_law_roll" = some (some (.ref f19))) (l19 : K.lookup f19 = some ⟨oc19, od19, .func (PySem.W.fnOf "_law_roll" "_law_roll" (defArgs s__law_roll) (defBody s__law_roll) (defScope s__law_roll) .none kV19 dc19 pm19 an19 cd19 ct19), sl19⟩) (c19 : PySem.W.codeIn K cd19 "_law_roll" = true) (k19 : PySem.W.keepIn K (.ref f19) = true)
    (a20 : PySem.W.nsIn K mainGlobals "_law_one_of" = some (some (.ref f20))) (l20 : K.lookup f20 = some ⟨oc20, od20, .func (PySem.W.fnOf "_law_one_of" "_law_one_of" (defArgs s__law_one_of) (defBody s__law_one_of) (defScope s__law_one_of) .none kV20 dc20 pm20 an20 cd20 ct20), sl20⟩) (c20 : PySem.W.codeIn K cd20 "_law_one_of" = true) (k20 : PySem.W.keepIn K (.ref f20) = true)
    (a21 : PySem.W.nsIn K mainGlobals "_law_mixed" = some (some (.ref f21))) (l21 : K.lookup f21 = some ⟨oc21, od21, .func (PySem.W.fnOf "_law_mixed" "_law_mixed" (defArgs s__law_mixed) (defBody s__law_mixed) (defScope s__law_mixed) .none kV21 dc21 pm21 an21 cd21 ct21), sl21⟩) (c21 : PySem.W.codeIn K cd21 "_law_mixed" = true) (k21 : PySem.W.keepIn K (.ref f21) = true)
    (a22 : PySem.W.nsIn K mainGlobals "_law_name" = some (some (.ref f22))) (l22 : K.lookup f22 = some ⟨oc22, od22, .func (PySem.W.fnOf "_law_name" "_law_name" (defArgs s__law_name) (defBody s__law_name) (defScope s__law_name) .none kV22 dc22 pm22 an22 cd22 ct22), sl22⟩) (c22 : PySem.W.codeIn K cd22 "_law_name" = true) (k22 : PySem.W.keepIn K (.ref f22) = true)
    (a23 : PySem.W.nsIn K mainGlobals "_law_names" = some (some (.ref f23))) (l23 : K.lookup f23 = some ⟨oc23, od23, .func (PySem.W.fnOf "_law_names" "_law_names" (defArgs s__law_names) (defBody s__law_names) (defScope s__law_names) .none kV23 dc23 pm23 an23 cd23 ct23), sl23⟩) (c23 : PySem.W.codeIn K cd23 "_law_names" = true) (k23 : PySem.W.keepIn K (.ref f23) = true)
    (a24 : PySem.W.nsIn K mainGlobals "_law_pairs" = some (some (.ref f24))) (l24 : K.lookup f24 = some ⟨oc24, od24, .func (PySem.W.fnOf "_law_pairs" "_law_pairs" (defArgs s__law_pairs) (defBody s__law_pairs) (defScope s__law_pairs) .none kV24 dc24 pm24 an24 cd24 ct24), sl24⟩) (c24 : PySem.W.codeIn K cd24 "_law_pairs" = true) (k24 : PySem.W.keepIn K (.ref f24) = true)
    (a25 : PySem.W.nsIn K mainGlobals "_law_item" = some (some (.ref f25))) (l25 : K.lookup f25 = some ⟨oc25, od25, .func (PySem.W.fnOf "_law_item" "_law_item" (defArgs s__law_item) (defBody s__law_item) (defScope s__law_item) .none kV25 dc25 pm25 an25 cd25 ct25), sl25⟩) (c25 : PySem.W.codeIn K cd25 "_law_item" = true) (k25 : PySem.W.keepIn K (.ref f25) = true)
    (a26 : PySem.W.nsIn K mainGlobals "_law_spoilt" = some (some (.ref f26))) (l26 : K.lookup f26 = some ⟨oc26, od26, .func (PySem.W.fnOf "_law_spoilt" "_law_spoilt" (defArgs s__law_spoilt) (defBody s__law_spoilt) (defScope s__law_spoilt) .none kV26 dc26 pm26 an26 cd26 ct26), sl26⟩) (c26 : PySem.W.codeIn K cd26 "_law_spoilt" = true) (k26 : PySem.W.keepIn K (.ref f26) = true)
    (a27 : PySem.W.nsIn K mainGlobals "_law_odd" = some (some (.ref f27))) (l27 : K.lookup f27 = some ⟨oc27, od27, .func (PySem.W.fnOf "_law_odd" "_law_odd" (defArgs s__law_odd) (defBody s__law_odd) (defScope s__law_odd) .none kV27 dc27 pm27 an27 cd27 ct27), sl27⟩) (c27 : PySem.W.codeIn K cd27 "_law_odd" = true) (k27 : PySem.W.keepIn K (.ref f27) = true)
    (a28 : PySem.W.nsIn K mainGlobals "_law_is_name" = some (some (.ref f28))) (l28 : K.lookup f28 = some ⟨oc28, od28, .func (PySem.W.fnOf "_law_is_name" "_law_is_name" (defArgs s__law_is_name) (defBody s__law_is_name) (defScope s__law_is_name) .none kV28 dc28 pm28 an28 cd28 ct28), sl28⟩) (c28 : PySem.W.codeIn K cd28 "_law_is_name" = true) (k28 : PySem.W.keepIn K (.ref f28) = true)
    (a29 : PySem.W.nsIn K mainGlobals "_law_is_integer" = some (some (.ref f29))) (l29 : K.lookup f29 = some ⟨oc29, od29, .func (PySem.W.fnOf "_law_is_integer" "_law_is_integer" (defArgs s__law_is_integer) (defBody s__law_is_integer) (defScope s__law_is_integer) .none kV29 dc29 pm29 an29 cd29 ct29), sl29⟩) (c29 : PySem.W.codeIn K cd29 "_law_is_integer" = true) (k29 : PySem.W.keepIn K (.ref f29) = true)
    (a30 : PySem.W.nsIn K mainGlobals "_law_is_item" = some (some (.ref f30))) (l30 : K.lookup f30 = some ⟨oc30, od30, .func (PySem.W.fnOf "_law_is_item" "_law_is_item" (defArgs s__law_is_item) (defBody s__law_is_item) (defScope s__law_is_item) .none kV30 dc30 pm30 an30 cd30 ct30), sl30⟩) (c30 : PySem.W.codeIn K cd30 "_law_is_item" = true) (k30 : PySem.W.keepIn K (.ref f30) = true)
    (a31 : PySem.W.nsIn K mainGlobals "_law_are_items" = some (some (.ref f31))) (l31 : K.lookup f31 = some ⟨oc31, od31, .func (PySem.W.fnOf "_law_are_items" "_law_are_items" (defArgs s__law_are_items) (defBody s__law_are_items) (defScope s__law_are_items) .none kV31 dc31 pm31 an31 cd31 ct31), sl31⟩) (c31 : PySem.W.codeIn K cd31 "_law_are_items" = true) (k31 : PySem.W.keepIn K (.ref f31) = true)
    (a32 : PySem.W.nsIn K mainGlobals "_law_all_outcomes" = some (some (.ref f32))) (l32 : K.lookup f32 = some ⟨oc32, od32, .func (PySem.W.fnOf "_law_all_outcomes" "_law_all_outcomes" (defArgs s__law_all_outcomes) (defBody s__law_all_outcomes) (defScope s__law_all_outcomes) .none kV32 dc32 pm32 an32 cd32 ct32), sl32⟩) (c32 : PySem.W.codeIn K cd32 "_law_all_outcomes" = true) (k32 : PySem.W.keepIn K (.ref f32) = true)
    (a33 : PySem.W.nsIn K mainGlobals "_law_is_row" = some (some (.ref f33))) (l33 : K.lookup f33 = some ⟨oc33, od33, .func (PySem.W.fnOf "_law_is_row" "_law_is_row" (defArgs s__law_is_row) (defBody s__law_is_row) (defScope s__law_is_row) .none kV33 dc33 pm33 an33 cd33 ct33), sl33⟩) (c33 : PySem.W.codeIn K cd33 "_law_is_row" = true) (k33 : PySem.W.keepIn K (.ref f33) = true)
    (a34 : PySem.W.nsIn K mainGlobals "_law_is_refused" = some (some (.ref f34))) (l34 : K.lookup f34 = some ⟨oc34, od34, .func (PySem.W.fnOf "_law_is_refused" "_law_is_refused" (defArgs s__law_is_refused) (defBody s__law_is_refused) (defScope s__law_is_refused) .none kV34 dc34 pm34 an34 cd34 ct34), sl34⟩) (c34 : PySem.W.codeIn K cd34 "_law_is_refused" = true) (k34 : PySem.W.keepIn K (.ref f34) = true)
    (a35 : PySem.W.nsIn K mainGlobals "_law_drawn_items" = some (some (.ref f35))) (l35 : K.lookup f35 = some ⟨oc35, od35, .func (PySem.W.fnOf "_law_drawn_items" "_law_drawn_items" (defArgs s__law_drawn_items) (defBody s__law_drawn_items) (defScope s__law_drawn_items) .none kV35 dc35 pm35 an35 cd35 ct35), sl35⟩) (c35 : PySem.W.codeIn K cd35 "_law_drawn_items" = true) (k35 : PySem.W.keepIn K (.ref f35) = true)
    (a36 : PySem.W.nsIn K mainGlobals "_law_changed_item" = some (some (.ref f36))) (l36 : K.lookup f36 = some ⟨oc36, od36, .func (PySem.W.fnOf "_law_changed_item" "_law_changed_item" (defArgs s__law_changed_item) (defBody s__law_changed_item) (defScope s__law_changed_item) .none kV36 dc36 pm36 an36 cd36 ct36), sl36⟩) (c36 : PySem.W.codeIn K cd36 "_law_changed_item" = true) (k36 : PySem.W.keepIn K (.ref f36) = true)
    (a37 : PySem.W.nsIn K mainGlobals "_law_changed_row" = some (some (.ref f37))) (l37 : K.lookup f37 = some ⟨oc37, od37, .func (PySem.W.fnOf "_law_changed_row" "_law_changed_row" (defArgs s__law_changed_row) (defBody s__law_changed_row) (defScope s__law_changed_row) .none kV37 dc37 pm37 an37 cd37 ct37), sl37⟩) (c37 : PySem.W.codeIn K cd37 "_law_changed_row" = true) (k37 : PySem.W.keepIn K (.ref f37) = true)
    (a38 : PySem.W.nsIn K mainGlobals "_law_right" = some (some (.ref f38))) (l38 : K.lookup f38 = some ⟨oc38, od38, .func (PySem.W.fnOf "_law_right" "_law_right" (defArgs s__law_right) (defBody s__law_right) (defScope s__law_right) .none kV38 dc38 pm38 an38 (.ref co__law_right) ct38), sl38⟩) (c38 : PySem.W.codeIn K (.ref co__law_right) "_law_right" = true) (k38 : PySem.W.keepIn K (.ref f38) = true)
    (kc__law_right : K.lookup co__law_right = some ⟨.type "code", cdo__law_right, .fields cvs__law_right, csl__law_right⟩) (kq__law_right : cvs__law_right[11]? = some (.ref tb__law_right)) (kh__law_right : PySem.W.codeHdIn K co__law_right tb__law_right = true) (ko__law_right : K.lookup tb__law_right = none) (kt__law_right : h.get? tb__law_right = some { cls := .none, data := .fields #[] })
    (a39 : PySem.W.nsIn K mainGlobals "law" = some (some (.ref f39))) (l39 : K.lookup f39 = some ⟨oc39, od39, .func (PySem.W.fnOf "law" "law" (defArgs s_law) (defBody s_law) (defScope s_law) .none kV39 dc39 pm39 an39 cd39 ct39), sl39⟩) (c39 : PySem.W.codeIn K cd39 "law" = true) (k39 : PySem.W.keepIn K (.ref f39) = true)
    (ya_Book : PySem.W.nsIn K mainGlobals "Book" = some (some (.ref K_Book))) (yo_Book : ownCB K K_Book (.type "type") = true)
    (yq_Book : PySem.W.findIn K (.ref K_Book) "__ne__" = some (some (.builtin "object.__ne__")))
    (yr_Book___or__ : binB K K_Book "or" = true)
    (yn_Book__pairs : PySem.W.findIn K (.ref K_Book) "_pairs" = some none)
    (yn_Book__outcomes : PySem.W.findIn K (.ref K_Book) "_outcomes" = some none)
    (a40 : PySem.W.findIn K (.ref K_Book) "__init__" = some (some (.ref f40)))
    (l40 : K.lookup f40 = some ⟨oc40, od40, .func (PySem.W.fnOf "__init__" "Book.__init__" (defArgs s_Book___init__) (defBody s_Book___init__) (defScope s_Book___init__) .none kV40 dc40 pm40 an40 cd40 ct40), sl40⟩) (c40 : PySem.W.codeIn K cd40 "Book.__init__" = true) (k40 : PySem.W.keepIn K (.ref f40) = true) (i40 : PySem.W.isFn K (.ref f40) = true)
    (a41 : PySem.W.findIn K (.ref K_Book) "of" = some (some (.ref p41))) (pl41 : K.lookup p41 = some ⟨.type "classmethod", pd41, .fields pv41, ps41⟩) (ph41 : pv41.toList.head? = some (.ref f41))
    (l41 : K.lookup f41 = some ⟨oc41, od41, .func (PySem.W.fnOf "of" "Book.of" (defArgs s_Book_of) (defBody s_Book_of) (defScope s_Book_of) .none kV41 dc41 pm41 an41 cd41 ct41), sl41⟩) (c41 : PySem.W.codeIn K cd41 "Book.of" = true) (k41 : PySem.W.keepIn K (.ref f41) = true) (i41 : PySem.W.isFn K (.ref f41) = true)
    (pc41 : PySem.W.findCls K (.ref K_Book) (.type "type") "of" = some (.get (.builtin "classmethod.__get__") (.ref p41) .none (.ref K_Book))) (pf41 : PySem.W.fnIn K f41 = true)
    (a42 : PySem.W.findIn K (.ref K_Book) "commands" = some (some (.ref p42))) (pl42 : K.lookup p42 = some ⟨.type "property", pd42, .fields pv42, ps42⟩) (ph42 : pv42.toList.head? = some (.ref f42))
    (l42 : K.lookup f42 = some ⟨oc42, od42, .func (PySem.W.fnOf "commands" "Book.commands" (defArgs s_Book_commands) (defBody s_Book_commands) (defScope s_Book_commands) .none kV42 dc42 pm42 an42 cd42 ct42), sl42⟩) (c42 : PySem.W.codeIn K cd42 "Book.commands" = true) (k42 : PySem.W.keepIn K (.ref f42) = true) (i42 : PySem.W.isFn K (.ref f42) = true)
    (pg42 : PySem.W.specialIn K (.ref p42) "__get__" = some (some (.builtin "property.__get__"))) (pt42 : PySem.W.takesIn K (.ref p42) = some true)
    (a43 : PySem.W.findIn K (.ref K_Book) "takes" = some (some (.ref f43)))
    (l43 : K.lookup f43 = some ⟨oc43, od43, .func (PySem.W.fnOf "takes" "Book.takes" (defArgs s_Book_takes) (defBody s_Book_takes) (defScope s_Book_takes) .none kV43 dc43 pm43 an43 cd43 ct43), sl43⟩) (c43 : PySem.W.codeIn K cd43 "Book.takes" = true) (k43 : PySem.W.keepIn K (.ref f43) = true) (i43 : PySem.W.isFn K (.ref f43) = true)
    (a44 : PySem.W.findIn K (.ref K_Book) "answers" = some (some (.ref f44)))
    (l44 : K.lookup f44 = some ⟨oc44, od44, .func (PySem.W.fnOf "answers" "Book.answers" (defArgs s_Book_answers) (defBody s_Book_answers) (defScope s_Book_answers) .none kV44 dc44 pm44 an44 cd44 ct44), sl44⟩) (c44 : PySem.W.codeIn K cd44 "Book.answers" = true) (k44 : PySem.W.keepIn K (.ref f44) = true) (i44 : PySem.W.isFn K (.ref f44) = true)
    (a45 : PySem.W.findIn K (.ref K_Book) "outcomes" = some (some (.ref f45)))
    (l45 : K.lookup f45 = some ⟨oc45, od45, .func (PySem.W.fnOf "outcomes" "Book.outcomes" (defArgs s_Book_outcomes) (defBody s_Book_outcomes) (defScope s_Book_outcomes) .none kV45 dc45 pm45 an45 cd45 ct45), sl45⟩) (c45 : PySem.W.codeIn K cd45 "Book.outcomes" = true) (k45 : PySem.W.keepIn K (.ref f45) = true) (i45 : PySem.W.isFn K (.ref f45) = true)
    (a46 : PySem.W.findIn K (.ref K_Book) "without" = some (some (.ref f46)))
    (l46 : K.lookup f46 = some ⟨oc46, od46, .func (PySem.W.fnOf "without" "Book.without" (defArgs s_Book_without) (defBody s_Book_without) (defScope s_Book_without) .none kV46 dc46 pm46 an46 cd46 ct46), sl46⟩) (c46 : PySem.W.codeIn K cd46 "Book.without" = true) (k46 : PySem.W.keepIn K (.ref f46) = true) (i46 : PySem.W.isFn K (.ref f46) = true)
    (a47 : PySem.W.findIn K (.ref K_Book) "is_within" = some (some (.ref f47)))
    (l47 : K.lookup f47 = some ⟨oc47, od47, .func (PySem.W.fnOf "is_within" "Book.is_within" (defArgs s_Book_is_within) (defBody s_Book_is_within) (defScope s_Book_is_within) .none kV47 dc47 pm47 an47 cd47 ct47), sl47⟩) (c47 : PySem.W.codeIn K cd47 "Book.is_within" = true) (k47 : PySem.W.keepIn K (.ref f47) = true) (i47 : PySem.W.isFn K (.ref f47) = true)
    (a48 : PySem.W.findIn K (.ref K_Book) "__or__" = some (some (.ref f48)))
    (l48 : K.lookup f48 = some ⟨oc48, od48, .func (PySem.W.fnOf "__or__" "Book.__or__" (defArgs s_Book___or__) (defBody s_Book___or__) (defScope s_Book___or__) .none kV48 dc48 pm48 an48 cd48 ct48), sl48⟩) (c48 : PySem.W.codeIn K cd48 "Book.__or__" = true) (k48 : PySem.W.keepIn K (.ref f48) = true) (i48 : PySem.W.isFn K (.ref f48) = true)
    (a49 : PySem.W.findIn K (.ref K_Book) "__getitem__" = some (some (.ref f49)))
    (l49 : K.lookup f49 = some ⟨oc49, od49, .func (PySem.W.fnOf "__getitem__" "Book.__getitem__" (defArgs s_Book___getitem__) (defBody s_Book___getitem__) (defScope s_Book___getitem__) .none kV49 dc49 pm49 an49 cd49 ct49), sl49⟩) (c49 : PySem.W.codeIn K cd49 "Book.__getitem__" = true) (k49 : PySem.W.keepIn K (.ref f49) = true) (i49 : PySem.W.isFn K (.ref f49) = true)
    (a50 : PySem.W.findIn K (.ref K_Book) "__contains__" = some (some (.ref f50)))
    (l50 : K.lookup f50 = some ⟨oc50, od50, .func (PySem.W.fnOf "__contains__" "Book.__contains__" (defArgs s_Book___contains__) (defBody s_Book___contains__) (defScope s_Book___contains__) .none kV50 dc50 pm50 an50 cd50 ct50), sl50⟩) (c50 : PySem.W.codeIn K cd50 "Book.__contains__" = true) (k50 : PySem.W.keepIn K (.ref f50) = true) (i50 : PySem.W.isFn K (.ref f50) = true)
    (a51 : PySem.W.findIn K (.ref K_Book) "__iter__" = some (some (.ref f51)))
    (l51 : K.lookup f51 = some ⟨oc51, od51, .func (PySem.W.fnOf "__iter__" "Book.__iter__" (defArgs s_Book___iter__) (defBody s_Book___iter__) (defScope s_Book___iter__) .none kV51 dc51 pm51 an51 cd51 ct51), sl51⟩) (c51 : PySem.W.codeIn K cd51 "Book.__iter__" = true) (k51 : PySem.W.keepIn K (.ref f51) = true) (i51 : PySem.W.isFn K (.ref f51) = true)
    (a52 : PySem.W.findIn K (.ref K_Book) "__len__" = some (some (.ref f52)))
    (l52 : K.lookup f52 = some ⟨oc52, od52, .func (PySem.W.fnOf "__len__" "Book.__len__" (defArgs s_Book___len__) (defBody s_Book___len__) (defScope s_Book___len__) .none kV52 dc52 pm52 an52 cd52 ct52), sl52⟩) (c52 : PySem.W.codeIn K cd52 "Book.__len__" = true) (k52 : PySem.W.keepIn K (.ref f52) = true) (i52 : PySem.W.isFn K (.ref f52) = true)
    (a53 : PySem.W.findIn K (.ref K_Book) "__eq__" = some (some (.ref f53)))
    (l53 : K.lookup f53 = some ⟨oc53, od53, .func (PySem.W.fnOf "__eq__" "Book.__eq__" (defArgs s_Book___eq__) (defBody s_Book___eq__) (defScope s_Book___eq__) .none kV53 dc53 pm53 an53 cd53 ct53), sl53⟩) (c53 : PySem.W.codeIn K cd53 "Book.__eq__" = true) (k53 : PySem.W.keepIn K (.ref f53) = true) (i53 : PySem.W.isFn K (.ref f53) = true)
    (a54 : PySem.W.findIn K (.ref K_Book) "__str__" = some (some (.ref f54)))
    (l54 : K.lookup f54 = some ⟨oc54, od54, .func (PySem.W.fnOf "__str__" "Book.__str__" (defArgs s_Book___str__) (defBody s_Book___str__) (defScope s_Book___str__) .none kV54 dc54 pm54 an54 cd54 ct54), sl54⟩) (c54 : PySem.W.codeIn K cd54 "Book.__str__" = true) (k54 : PySem.W.keepIn K (.ref f54) = true) (i54 : PySem.W.isFn K (.ref f54) = true)
    (z_abs : PySem.W.nsIn K mainGlobals "abs" = some none)
    (z_all : PySem.W.nsIn K mainGlobals "all" = some none)
    (z_any : PySem.W.nsIn K mainGlobals "any" = some none)
    (z_bool : PySem.W.nsIn K mainGlobals "bool" = some none)
    (z_dict : PySem.W.nsIn K mainGlobals "dict" = some none)
    (z_enumerate : PySem.W.nsIn K mainGlobals "enumerate" = some none)
    (z_int : PySem.W.nsIn K mainGlobals "int" = some none)
    (z_isinstance : PySem.W.nsIn K mainGlobals "isinstance" = some none)
    (z_iter : PySem.W.nsIn K mainGlobals "iter" = some none)
    (z_len : PySem.W.nsIn K mainGlobals "len" = some none)
    (z_list : PySem.W.nsIn K mainGlobals "list" = some none)
    (z_max : PySem.W.nsIn K mainGlobals "max" = some none)
    (z_min : PySem.W.nsIn K mainGlobals "min" = some none)
    (z_range : PySem.W.nsIn K mainGlobals "range" = some none)
    (z_repr : PySem.W.nsIn K mainGlobals "repr" = some none)
    (z_sorted : PySem.W.nsIn K mainGlobals "sorted" = some none)
    (z_str : PySem.W.nsIn K mainGlobals "str" = some none)
    (z_tuple : PySem.W.nsIn K mainGlobals "tuple" = some none)
    (z_type : PySem.W.nsIn K mainGlobals "type" = some none)
    (v_MAX_LETTERS : PySem.W.nsIn K mainGlobals "MAX_LETTERS" = some (some (.int 8 t_MAX_LETTERS)))
    (v_RESERVED : PySem.W.nsIn K mainGlobals "RESERVED" = some (some (.ref p_RESERVED))) (w_RESERVED : K.lookup p_RESERVED = some ⟨.type "tuple", od_RESERVED, .seq ([.str "failed" t0_RESERVED, .str "kept" t1_RESERVED, .str "skipped" t2_RESERVED, .str "undone" t3_RESERVED] : List Value).toArray n_RESERVED, sl_RESERVED⟩)
    (v_MAX_COMMANDS : PySem.W.nsIn K mainGlobals "MAX_COMMANDS" = some (some (.int 6 t_MAX_COMMANDS)))
    (v_MAX_TAKES : PySem.W.nsIn K mainGlobals "MAX_TAKES" = some (some (.int 2 t_MAX_TAKES)))
    (v_MAX_ANSWERS : PySem.W.nsIn K mainGlobals "MAX_ANSWERS" = some (some (.int 3 t_MAX_ANSWERS)))
    (v_MARK : PySem.W.nsIn K mainGlobals "MARK" = some (some (.ref p_MARK))) (w_MARK : K.lookup p_MARK = some ⟨.type "tuple", od_MARK, .seq ([.str "mark" t0_MARK] : List Value).toArray n_MARK, sl_MARK⟩)
    (xa_AheadError : PySem.W.nsIn K mainGlobals "AheadError" = some (some (.ref C_AheadError)))
    (xb_AheadError : own0B K C_AheadError "ValueError.__new__" tlVE = true)
    (xa_InvalidBook : PySem.W.nsIn K mainGlobals "InvalidBook" = some (some (.ref C_InvalidBook)))
    (xb_InvalidBook : own0B K C_InvalidBook "ValueError.__new__" tlVE = true)
    (xa_InvalidOperation : PySem.W.nsIn K mainGlobals "InvalidOperation" = some (some (.ref C_InvalidOperation)))
    (xb_InvalidOperation : own0B K C_InvalidOperation "ValueError.__new__" tlVE = true)
    (xa_UnknownName : PySem.W.nsIn K mainGlobals "UnknownName" = some (some (.ref C_UnknownName)))
    (xi_UnknownName : PySem.W.findIn K (.ref C_UnknownName) "__init__" = some (some (.ref I_UnknownName)))
    (xl_UnknownName : K.lookup I_UnknownName = some ⟨oci_UnknownName, odi_UnknownName, .func (PySem.W.fnX "__init__" "UnknownName.__init__" (defArgs s_UnknownName_init) (defBody s_UnknownName_init) (defScope s_UnknownName_init) [("__class__", cc_UnknownName)] .none kVi_UnknownName dci_UnknownName pmi_UnknownName ani_UnknownName (.ref ca_UnknownName) cti_UnknownName), sli_UnknownName⟩)
    (xd_UnknownName : PySem.W.codeIn K (.ref ca_UnknownName) "UnknownName.__init__" = true)
    (xo_UnknownName : K.lookup ca_UnknownName = some ⟨ccl_UnknownName, cdd_UnknownName, .fields vs_UnknownName, ccs_UnknownName⟩)
    (xv_UnknownName : vs_UnknownName[2]? = some (.str fi_UnknownName tf_UnknownName))
    (xf_UnknownName : ((prog0.main.file : Str) == fi_UnknownName) = true)
    (xc_UnknownName : K.lookup cc_UnknownName = some ⟨cl_UnknownName, cld_UnknownName, .cell (some (.ref C_UnknownName)), csl_UnknownName⟩)
    (xb_UnknownName : own1B K C_UnknownName I_UnknownName "KeyError" "LookupError.__new__" "KeyError.__init__" tlKE "name" = true)
    (xt_C : isTab K [C_AheadError, C_InvalidBook, C_InvalidOperation, C_UnknownName] [.ref C_AheadError, .ref C_InvalidBook, .ref C_InvalidOperation, .ref C_UnknownName] = [[some true, some false, some false, some false], [some true, some true, some false, some false], [some true, some false, some true, some false], [some false, some false, some false, some true]])
    (xt_B : isTab K [C_AheadError, C_InvalidBook, C_InvalidOperation, C_UnknownName] [.type "ValueError", .type "KeyError"] = [[some true, some false], [some true, some false], [some true, some false], [some false, some true]])
    (xt_E : exTab K [C_AheadError, C_InvalidBook, C_InvalidOperation, C_UnknownName] = [[some true, some false, some false, some false], [some true, some true, some false, some false], [some true, some false, some true, some false], [some false, some false, some false, some true]])
    : ∃ (fd : FuncData) (cs : List (Addr × Addr)) (sp : Sp), (∀ p ∈ cs, TabZ K h p.1 p.2) ∧ (∀ (s : Shared) (v : Value), BindsTo s fd ⟨[v], []⟩ [("script", v)]) ∧
        (∀ (H : Hp) (a : Addr) (ns : List Int), ns.length ≤ 63 → (∀ p ∈ cs, H p.2 = some (.tbl #[])) → SqL K H a (ns.map V.int) → sp [.ref a] H (fun v _ => v = .bl true) fun _ _ _ => False) ∧
        ∀ base : Heap, K.In base → base.Ns mainGlobals mg → (∀ p ∈ cs, LamX.TabB base mg p.1 p.2) → FnG prog0 w K mg base CX0 24 fa fd ["script"] sp := by
  have e := hfa.symm.trans (PySem.W.mg_of X G a39)
  cases e
  have T : ∃ T : Txt K mg, T.cot = [(co__law_right, tb__law_right)] ∧ T.a_law = fa ∧ T.d_law = PySem.W.fnOf "law" "law" (defArgs s_law) (defBody s_law) (defScope s_law) .none kV39 dc39 pm39 an39 cd39 ct39 := ⟨{
    a__wall := f0
    d__wall := _
    F__wall := fun_mk (st := s__wall) l0 c0 k0
    m__wall := PySem.W.mg_of X G a0
    b__wall := (fun_mk (st := s__wall) l0 c0 k0).binds (ps := ["k"]) fun _ _ _ _ _ _ us hl => match us, hl with | [_], _ => rfl
    a_is_count := f1
    d_is_count := _
    F_is_count := fun_mk (st := s_is_count) l1 c1 k1
    m_is_count := PySem.W.mg_of X G a1
    b_is_count := (fun_mk (st := s_is_count) l1 c1 k1).binds (ps := ["value"]) fun _ _ _ _ _ _ us hl => match us, hl with | [_], _ => rfl
    a_is_name := f2
    d_is_name := _
    F_is_name := fun_mk (st := s_is_name) l2 c2 k2
    m_is_name := PySem.W.mg_of X G a2
    b_is_name := (fun_mk (st := s_is_name) l2 c2 k2).binds (ps := ["value"]) fun _ _ _ _ _ _ us hl => match us, hl with | [_], _ => rfl
    a_is_answer := f3
    d_is_answer := _
    F_is_answer := fun_mk (st := s_is_answer) l3 c3 k3
    m_is_answer := PySem.W.mg_of X G a3
    b_is_answer := (fun_mk (st := s_is_answer) l3 c3 k3).binds (ps := ["value"]) fun _ _ _ _ _ _ us hl => match us, hl with | [_], _ => rfl
    a_is_names := f4
    d_is_names := _
    F_is_names := fun_mk (st := s_is_names) l4 c4 k4
    m_is_names := PySem.W.mg_of X G a4
    b_is_names := (fun_mk (st := s_is_names) l4 c4 k4).binds (ps := ["value"]) fun _ _ _ _ _ _ us hl => match us, hl with | [_], _ => rfl
    a_book_with := f5
    d_book_with := _
    F_book_with := fun_mk (st := s_book_with) l5 c5 k5
    m_book_with := PySem.W.mg_of X G a5
    b_book_with := (fun_mk (st := s_book_with) l5 c5 k5).binds (ps := ["pairs"]) fun _ _ _ _ _ _ us hl => match us, hl with | [_], _ => rfl
    a_outcomes_in := f6
    d_outcomes_in := _
    F_outcomes_in := fun_mk (st := s_outcomes_in) l6 c6 k6
    m_outcomes_in := PySem.W.mg_of X G a6
    b_outcomes_in := (fun_mk (st := s_outcomes_in) l6 c6 k6).binds (ps := ["pairs"]) fun _ _ _ _ _ _ us hl => match us, hl with | [_], _ => rfl
    a_pairs_of := f7
    d_pairs_of := _
    F_pairs_of := fun_mk (st := s_pairs_of) l7 c7 k7
    m_pairs_of := PySem.W.mg_of X G a7
    b_pairs_of := (fun_mk (st := s_pairs_of) l7 c7 k7).binds (ps := ["book"]) fun _ _ _ _ _ _ us hl => match us, hl with | [_], _ => rfl
    a_checked_pairs := f8
    d_checked_pairs := _
    F_checked_pairs := fun_mk (st := s_checked_pairs) l8 c8 k8
    m_checked_pairs := PySem.W.mg_of X G a8
    b_checked_pairs := (fun_mk (st := s_checked_pairs) l8 c8 k8).binds (ps := ["commands"]) fun _ _ _ _ _ _ us hl => match us, hl with | [_], _ => rfl
    a_is_pair := f9
    d_is_pair := _
    F_is_pair := fun_mk (st := s_is_pair) l9 c9 k9
    m_is_pair := PySem.W.mg_of X G a9
    b_is_pair := (fun_mk (st := s_is_pair) l9 c9 k9).binds (ps := ["value"]) fun _ _ _ _ _ _ us hl => match us, hl with | [_], _ => rfl
    a_need_book := f10
    d_need_book := _
    F_need_book := fun_mk (st := s_need_book) l10 c10 k10
    m_need_book := PySem.W.mg_of X G a10
    b_need_book := (fun_mk (st := s_need_book) l10 c10 k10).binds (ps := ["book"]) fun _ _ _ _ _ _ us hl => match us, hl with | [_], _ => rfl
    a_is_item := f11
    d_is_item := _
    F_is_item := fun_mk (st := s_is_item) l11 c11 k11
    m_is_item := PySem.W.mg_of X G a11
    b_is_item := (fun_mk (st := s_is_item) l11 c11 k11).binds (ps := ["book", "value"]) fun _ _ _ _ _ _ us hl => match us, hl with | [_, _], _ => rfl
    a_is_item_with := f12
    d_is_item_with := _
    F_is_item_with := fun_mk (st := s_is_item_with) l12 c12 k12
    m_is_item_with := PySem.W.mg_of X G a12
    b_is_item_with := (fun_mk (st := s_is_item_with) l12 c12 k12).binds (ps := ["pairs", "value"]) fun _ _ _ _ _ _ us hl => match us, hl with | [_, _], _ => rfl
    a_is_items := f13
    d_is_items := _
    F_is_items := fun_mk (st := s_is_items) l13 c13 k13
    m_is_items := PySem.W.mg_of X G a13
    b_is_items := (fun_mk (st := s_is_items) l13 c13 k13).binds (ps := ["book", "value"]) fun _ _ _ _ _ _ us hl => match us, hl with | [_, _], _ => rfl
    a_is_row := f14
    d_is_row := _
    F_is_row := fun_mk (st := s_is_row) l14 c14 k14
    m_is_row := PySem.W.mg_of X G a14
    b_is_row := (fun_mk (st := s_is_row) l14 c14 k14).binds (ps := ["book", "value"]) fun _ _ _ _ _ _ us hl => match us, hl with | [_, _], _ => rfl
    a_is_argument := f15
    d_is_argument := _
    F_is_argument := fun_mk (st := s_is_argument) l15 c15 k15
    m_is_argument := PySem.W.mg_of X G a15
    b_is_argument := (fun_mk (st := s_is_argument) l15 c15 k15).binds (ps := ["value"]) fun _ _ _ _ _ _ us hl => match us, hl with | [_], _ => rfl
    a_can_stand := f16
    d_can_stand := _
    F_can_stand := fun_mk (st := s_can_stand) l16 c16 k16
    m_can_stand := PySem.W.mg_of X G a16
    b_can_stand := (fun_mk (st := s_can_stand) l16 c16 k16).binds (ps := ["argument", "items", "at"]) fun _ _ _ _ _ _ us hl => match us, hl with | [_, _, _], _ => rfl
    a_is_behind := f17
    d_is_behind := _
    F_is_behind := fun_mk (st := s_is_behind) l17 c17 k17
    m_is_behind := PySem.W.mg_of X G a17
    b_is_behind := (fun_mk (st := s_is_behind) l17 c17 k17).binds (ps := ["item", "items", "at"]) fun _ _ _ _ _ _ us hl => match us, hl with | [_, _, _], _ => rfl
    a__law_dice := f18
    d__law_dice := _
    F__law_dice := fun_mk (st := s__law_dice) l18 c18 k18
    m__law_dice := PySem.W.mg_of X G a18
    b__law_dice := (fun_mk (st := s__law_dice) l18 c18 k18).binds (ps := ["script", "at"]) fun _ _ _ _ _ _ us hl => match us, hl with | [_, _], _ => rfl
    a__law_roll := f19
    d__law_roll := _
    F__law_roll := fun_mk (st := s__law_roll) l19 c19 k19
    m__law_roll := PySem.W.mg_of X G a19
    b__law_roll := (fun_mk (st := s__law_roll) l19 c19 k19).binds (ps := ["dice", "total"]) fun _ _ _ _ _ _ us hl => match us, hl with | [_, _], _ => rfl
    a__law_one_of := f20
    d__law_one_of := _
    F__law_one_of := fun_mk (st := s__law_one_of) l20 c20 k20
    m__law_one_of := PySem.W.mg_of X G a20
    b__law_one_of := (fun_mk (st := s__law_one_of) l20 c20 k20).binds (ps := ["dice", "items"]) fun _ _ _ _ _ _ us hl => match us, hl with | [_, _], _ => rfl
    a__law_mixed := f21
    d__law_mixed := _
    F__law_mixed := fun_mk (st := s__law_mixed) l21 c21 k21
    m__law_mixed := PySem.W.mg_of X G a21
    b__law_mixed := (fun_mk (st := s__law_mixed) l21 c21 k21).binds (ps := ["dice", "items"]) fun _ _ _ _ _ _ us hl => match us, hl with | [_, _], _ => rfl
    a__law_name := f22
    d__law_name := _
    F__law_name := fun_mk (st := s__law_name) l22 c22 k22
    m__law_name := PySem.W.mg_of X G a22
    b__law_name := (fun_mk (st := s__law_name) l22 c22 k22).binds (ps := ["dice", "taken"]) fun _ _ _ _ _ _ us hl => match us, hl with | [_, _], _ => rfl
    a__law_names := f23
    d__law_names := _
    F__law_names := fun_mk (st := s__law_names) l23 c23 k23
    m__law_names := PySem.W.mg_of X G a23
    b__law_names := (fun_mk (st := s__law_names) l23 c23 k23).binds (ps := ["dice", "size"]) fun _ _ _ _ _ _ us hl => match us, hl with | [_, _], _ => rfl
    a__law_pairs := f24
    d__law_pairs := _
    F__law_pairs := fun_mk (st := s__law_pairs) l24 c24 k24
    m__law_pairs := PySem.W.mg_of X G a24
    b__law_pairs := (fun_mk (st := s__law_pairs) l24 c24 k24).binds (ps := ["dice", "most", "answers"]) fun _ _ _ _ _ _ us hl => match us, hl with | [_, _, _], _ => rfl
    a__law_item := f25
    d__law_item := _
    F__law_item := fun_mk (st := s__law_item) l25 c25 k25
    m__law_item := PySem.W.mg_of X G a25
    b__law_item := (fun_mk (st := s__law_item) l25 c25 k25).binds (ps := ["dice", "pairs", "words", "sends"]) fun _ _ _ _ _ _ us hl => match us, hl with | [_, _, _, _], _ => rfl
    a__law_spoilt := f26
    d__law_spoilt := _
    F__law_spoilt := fun_mk (st := s__law_spoilt) l26 c26 k26
    m__law_spoilt := PySem.W.mg_of X G a26
    b__law_spoilt := (fun_mk (st := s__law_spoilt) l26 c26 k26).binds (ps := ["dice", "value", "odd"]) fun _ _ _ _ _ _ us hl => match us, hl with | [_, _, _], _ => rfl
    a__law_odd := f27
    d__law_odd := _
    F__law_odd := fun_mk (st := s__law_odd) l27 c27 k27
    m__law_odd := PySem.W.mg_of X G a27
    b__law_odd := (fun_mk (st := s__law_odd) l27 c27 k27).binds (ps := ["dice"]) fun _ _ _ _ _ _ us hl => match us, hl with | [_], _ => rfl
    a__law_is_name := f28
    d__law_is_name := _
    F__law_is_name := fun_mk (st := s__law_is_name) l28 c28 k28
    m__law_is_name := PySem.W.mg_of X G a28
    b__law_is_name := (fun_mk (st := s__law_is_name) l28 c28 k28).binds (ps := ["value"]) fun _ _ _ _ _ _ us hl => match us, hl with | [_], _ => rfl
    a__law_is_integer := f29
    d__law_is_integer := _
    F__law_is_integer := fun_mk (st := s__law_is_integer) l29 c29 k29
    m__law_is_integer := PySem.W.mg_of X G a29
    b__law_is_integer := (fun_mk (st := s__law_is_integer) l29 c29 k29).binds (ps := ["value"]) fun _ _ _ _ _ _ us hl => match us, hl with | [_], _ => rfl
    a__law_is_item := f30
    d__law_is_item := _
    F__law_is_item := fun_mk (st := s__law_is_item) l30 c30 k30
    m__law_is_item := PySem.W.mg_of X G a30
    b__law_is_item := (fun_mk (st := s__law_is_item) l30 c30 k30).binds (ps := ["pairs", "value"]) fun _ _ _ _ _ _ us hl => match us, hl with | [_, _], _ => rfl
    a__law_are_items := f31
    d__law_are_items := _
    F__law_are_items := fun_mk (st := s__law_are_items) l31 c31 k31
    m__law_are_items := PySem.W.mg_of X G a31
    b__law_are_items := (fun_mk (st := s__law_are_items) l31 c31 k31).binds (ps := ["pairs", "value"]) fun _ _ _ _ _ _ us hl => match us, hl with | [_, _], _ => rfl
    a__law_all_outcomes := f32
    d__law_all_outcomes := _
    F__law_all_outcomes := fun_mk (st := s__law_all_outcomes) l32 c32 k32
    m__law_all_outcomes := PySem.W.mg_of X G a32
    b__law_all_outcomes := (fun_mk (st := s__law_all_outcomes) l32 c32 k32).binds (ps := ["pairs"]) fun _ _ _ _ _ _ us hl => match us, hl with | [_], _ => rfl
    a__law_is_row := f33
    d__law_is_row := _
    F__law_is_row := fun_mk (st := s__law_is_row) l33 c33 k33
    m__law_is_row := PySem.W.mg_of X G a33
    b__law_is_row := (fun_mk (st := s__law_is_row) l33 c33 k33).binds (ps := ["pairs", "value"]) fun _ _ _ _ _ _ us hl => match us, hl with | [_, _], _ => rfl
    a__law_is_refused := f34
    d__law_is_refused := _
    F__law_is_refused := fun_mk (st := s__law_is_refused) l34 c34 k34
    m__law_is_refused := PySem.W.mg_of X G a34
    b__law_is_refused := (fun_mk (st := s__law_is_refused) l34 c34 k34).binds (ps := ["call"]) fun _ _ _ _ _ _ us hl => match us, hl with | [_], _ => rfl
    a__law_drawn_items := f35
    d__law_drawn_items := _
    F__law_drawn_items := fun_mk (st := s__law_drawn_items) l35 c35 k35
    m__law_drawn_items := PySem.W.mg_of X G a35
    b__law_drawn_items := (fun_mk (st := s__law_drawn_items) l35 c35 k35).binds (ps := ["dice", "pairs", "words", "many"]) fun _ _ _ _ _ _ us hl => match us, hl with | [_, _, _, _], _ => rfl
    a__law_changed_item := f36
    d__law_changed_item := _
    F__law_changed_item := fun_mk (st := s__law_changed_item) l36 c36 k36
    m__law_changed_item := PySem.W.mg_of X G a36
    b__law_changed_item := (fun_mk (st := s__law_changed_item) l36 c36 k36).binds (ps := ["dice", "pairs", "item"]) fun _ _ _ _ _ _ us hl => match us, hl with | [_, _, _], _ => rfl
    a__law_changed_row := f37
    d__law_changed_row := _
    F__law_changed_row := fun_mk (st := s__law_changed_row) l37 c37 k37
    m__law_changed_row := PySem.W.mg_of X G a37
    b__law_changed_row := (fun_mk (st := s__law_changed_row) l37 c37 k37).binds (ps := ["dice", "row", "more"]) fun _ _ _ _ _ _ us hl => match us, hl with | [_, _, _], _ => rfl
    a__law_right := f38
    d__law_right := _
    F__law_right := fun_mk (st := s__law_right) l38 c38 k38
    m__law_right := PySem.W.mg_of X G a38
    b__law_right := (fun_mk (st := s__law_right) l38 c38 k38).binds (ps := ["dice"]) fun _ _ _ _ _ _ us hl => match us, hl with | [_], _ => rfl
    co__law_right := co__law_right
    tb__law_right := tb__law_right
    l__law_right := ⟨kV38, dc38, pm38, an38, ct38, rfl⟩
    a_law := fa
    d_law := _
    F_law := fun_mk (st := s_law) l39 c39 k39
    m_law := PySem.W.mg_of X G a39
    b_law := (fun_mk (st := s_law) l39 c39 k39).binds (ps := ["script"]) fun _ _ _ _ _ _ us hl => match us, hl with | [_], _ => rfl
    c_Book := K_Book
    m_Book := PySem.W.mg_of X G ya_Book
    o_Book := ownC_mk yo_Book
    N_Book := ⟨yq_Book, (ownC_mk yo_Book).hm⟩
    B_Book___or__ := binB_mk yr_Book___or__
    n_Book__pairs := yn_Book__pairs
    n_Book__outcomes := yn_Book__outcomes
    a_Book___init__ := f40
    d_Book___init__ := _
    F_Book___init__ := fun_mk (st := s_Book___init__) l40 c40 k40
    k_Book := ⟨(ownC_mk yo_Book).makes, a40, i40, (ownC_mk yo_Book).kp⟩
    a_Book_of := f41
    d_Book_of := _
    F_Book_of := fun_mk (st := s_Book_of) l41 c41 k41
    b_Book_of := (fun_mk (st := s_Book_of) l41 c41 k41).binds (ps := ["cls", "commands"]) fun _ _ _ _ _ _ us hl => match us, hl with | [_, _], _ => rfl
    p_Book_of := p41
    P_Book_of := ⟨pc41, rec_hd pl41 ph41, pf41⟩
    a_Book_commands := f42
    d_Book_commands := _
    F_Book_commands := fun_mk (st := s_Book_commands) l42 c42 k42
    b_Book_commands := (fun_mk (st := s_Book_commands) l42 c42 k42).binds (ps := ["self"]) fun _ _ _ _ _ _ us hl => match us, hl with | [_], _ => rfl
    p_Book_commands := p42
    P_Book_commands := ⟨a42, pg42, pt42, rec_hd pl42 ph42⟩
    a_Book_takes := f43
    d_Book_takes := _
    F_Book_takes := fun_mk (st := s_Book_takes) l43 c43 k43
    b_Book_takes := (fun_mk (st := s_Book_takes) l43 c43 k43).binds (ps := ["self", "command"]) fun _ _ _ _ _ _ us hl => match us, hl with | [_, _], _ => rfl
    M_Book_takes := ⟨a43, i43, k43⟩
    a_Book_answers := f44
    d_Book_answers := _
    F_Book_answers := fun_mk (st := s_Book_answers) l44 c44 k44
    b_Book_answers := (fun_mk (st := s_Book_answers) l44 c44 k44).binds (ps := ["self", "command"]) fun _ _ _ _ _ _ us hl => match us, hl with | [_, _], _ => rfl
    M_Book_answers := ⟨a44, i44, k44⟩
    a_Book_outcomes := f45
    d_Book_outcomes := _
    F_Book_outcomes := fun_mk (st := s_Book_outcomes) l45 c45 k45
    b_Book_outcomes := (fun_mk (st := s_Book_outcomes) l45 c45 k45).binds (ps := ["self", "command"]) fun _ _ _ _ _ _ us hl => match us, hl with | [_, _], _ => rfl
    M_Book_outcomes := ⟨a45, i45, k45⟩
    a_Book_without := f46
    d_Book_without := _
    F_Book_without := fun_mk (st := s_Book_without) l46 c46 k46
    b_Book_without := (fun_mk (st := s_Book_without) l46 c46 k46).binds (ps := ["self", "command"]) fun _ _ _ _ _ _ us hl => match us, hl with | [_, _], _ => rfl
    M_Book_without := ⟨a46, i46, k46⟩
    a_Book_is_within := f47
    d_Book_is_within := _
    F_Book_is_within := fun_mk (st := s_Book_is_within) l47 c47 k47
    b_Book_is_within := (fun_mk (st := s_Book_is_within) l47 c47 k47).binds (ps := ["self", "other"]) fun _ _ _ _ _ _ us hl => match us, hl with | [_, _], _ => rfl
    M_Book_is_within := ⟨a47, i47, k47⟩
    a_Book___or__ := f48
    d_Book___or__ := _
    F_Book___or__ := fun_mk (st := s_Book___or__) l48 c48 k48
    b_Book___or__ := (fun_mk (st := s_Book___or__) l48 c48 k48).binds (ps := ["self", "other"]) fun _ _ _ _ _ _ us hl => match us, hl with | [_, _], _ => rfl
    D_Book___or__ := ⟨a48, i48⟩
    a_Book___getitem__ := f49
    d_Book___getitem__ := _
    F_Book___getitem__ := fun_mk (st := s_Book___getitem__) l49 c49 k49
    b_Book___getitem__ := (fun_mk (st := s_Book___getitem__) l49 c49 k49).binds (ps := ["self", "command"]) fun _ _ _ _ _ _ us hl => match us, hl with | [_, _], _ => rfl
    D_Book___getitem__ := ⟨a49, i49⟩
    a_Book___contains__ := f50
    d_Book___contains__ := _
    F_Book___contains__ := fun_mk (st := s_Book___contains__) l50 c50 k50
    b_Book___contains__ := (fun_mk (st := s_Book___contains__) l50 c50 k50).binds (ps := ["self", "value"]) fun _ _ _ _ _ _ us hl => match us, hl with | [_, _], _ => rfl
    D_Book___contains__ := ⟨a50, i50⟩
    a_Book___iter__ := f51
    d_Book___iter__ := _
    F_Book___iter__ := fun_mk (st := s_Book___iter__) l51 c51 k51
    b_Book___iter__ := (fun_mk (st := s_Book___iter__) l51 c51 k51).binds (ps := ["self"]) fun _ _ _ _ _ _ us hl => match us, hl with | [_], _ => rfl
    D_Book___iter__ := ⟨a51, i51⟩
    a_Book___len__ := f52
    d_Book___len__ := _
    F_Book___len__ := fun_mk (st := s_Book___len__) l52 c52 k52
    b_Book___len__ := (fun_mk (st := s_Book___len__) l52 c52 k52).binds (ps := ["self"]) fun _ _ _ _ _ _ us hl => match us, hl with | [_], _ => rfl
    D_Book___len__ := ⟨a52, i52⟩
    a_Book___eq__ := f53
    d_Book___eq__ := _
    F_Book___eq__ := fun_mk (st := s_Book___eq__) l53 c53 k53
    b_Book___eq__ := (fun_mk (st := s_Book___eq__) l53 c53 k53).binds (ps := ["self", "other"]) fun _ _ _ _ _ _ us hl => match us, hl with | [_, _], _ => rfl
    D_Book___eq__ := ⟨a53, i53⟩
    a_Book___str__ := f54
    d_Book___str__ := _
    F_Book___str__ := fun_mk (st := s_Book___str__) l54 c54 k54
    b_Book___str__ := (fun_mk (st := s_Book___str__) l54 c54 k54).binds (ps := ["self"]) fun _ _ _ _ _ _ us hl => match us, hl with | [_], _ => rfl
    D_Book___str__ := ⟨a54, i54⟩
    z_abs := PySem.W.mg_none_of X G z_abs
    z_all := PySem.W.mg_none_of X G z_all
    z_any := PySem.W.mg_none_of X G z_any
    z_bool := PySem.W.mg_none_of X G z_bool
    z_dict := PySem.W.mg_none_of X G z_dict
    z_enumerate := PySem.W.mg_none_of X G z_enumerate
    z_int := PySem.W.mg_none_of X G z_int
    z_isinstance := PySem.W.mg_none_of X G z_isinstance
    z_iter := PySem.W.mg_none_of X G z_iter
    z_len := PySem.W.mg_none_of X G z_len
    z_list := PySem.W.mg_none_of X G z_list
    z_max := PySem.W.mg_none_of X G z_max
    z_min := PySem.W.mg_none_of X G z_min
    z_range := PySem.W.mg_none_of X G z_range
    z_repr := PySem.W.mg_none_of X G z_repr
    z_sorted := PySem.W.mg_none_of X G z_sorted
    z_str := PySem.W.mg_none_of X G z_str
    z_tuple := PySem.W.mg_none_of X G z_tuple
    z_type := PySem.W.mg_none_of X G z_type
    t_MAX_LETTERS := t_MAX_LETTERS
    m_MAX_LETTERS := PySem.W.mg_of X G v_MAX_LETTERS
    a_RESERVED := p_RESERVED
    m_RESERVED := PySem.W.mg_of X G v_RESERVED
    q_RESERVED := fun H => Or.inr ⟨_, _, _, w_RESERVED, rfl, rfl, (by show 4 ≤ sizeLine; decide), .cons ⟨_, rfl⟩ (.cons ⟨_, rfl⟩ (.cons ⟨_, rfl⟩ (.cons ⟨_, rfl⟩ (.nil))))⟩
    t_MAX_COMMANDS := t_MAX_COMMANDS
    m_MAX_COMMANDS := PySem.W.mg_of X G v_MAX_COMMANDS
    t_MAX_TAKES := t_MAX_TAKES
    m_MAX_TAKES := PySem.W.mg_of X G v_MAX_TAKES
    t_MAX_ANSWERS := t_MAX_ANSWERS
    m_MAX_ANSWERS := PySem.W.mg_of X G v_MAX_ANSWERS
    a_MARK := p_MARK
    m_MARK := PySem.W.mg_of X G v_MARK
    q_MARK := fun H => Or.inr ⟨_, _, _, w_MARK, rfl, rfl, (by show 1 ≤ sizeLine; decide), .cons ⟨_, rfl⟩ (.nil)⟩
    c_AheadError := C_AheadError
    e_AheadError := own0_mk (PySem.W.mg_of X G xa_AheadError) xb_AheadError
    c_InvalidBook := C_InvalidBook
    e_InvalidBook := own0_mk (PySem.W.mg_of X G xa_InvalidBook) xb_InvalidBook
    c_InvalidOperation := C_InvalidOperation
    e_InvalidOperation := own0_mk (PySem.W.mg_of X G xa_InvalidOperation) xb_InvalidOperation
    c_UnknownName := C_UnknownName
    i_UnknownName := I_UnknownName
    d_UnknownName := _
    e_UnknownName := own1_mk base_KE (PySem.W.mg_of X G xa_UnknownName) xi_UnknownName (supFn_mk (st := s_UnknownName_init) xl_UnknownName xd_UnknownName xo_UnknownName xv_UnknownName xf_UnknownName xc_UnknownName (by decide +kernel) (PySem.W.mg_none_of X G z_super) (by rfl)) (Binds.all fun us hl => match us, hl with | [_, _], _ => rfl) xb_UnknownName
    tabC := xt_C
    tabE := xt_E
    tabB := xt_B
    }, rfl, rfl, rfl⟩
  obtain ⟨T, e0, e1, e2⟩ := T
  have tz : ∀ p ∈ T.cot, TabZ K h p.1 p.2 := by
    rw [e0]
    exact List.forall_mem_cons.mpr ⟨⟨kt__law_right, ko__law_right, PySem.W.codeHd_of_K X kh__law_right⟩, fun _ h => nomatch h⟩
  refine ⟨PySem.W.fnOf "law" "law" (defArgs s_law) (defBody s_law) (defScope s_law) .none kV39 dc39 pm39 an39 cd39 ct39, T.cot, sp_lawT T, tz, fun s v => .of_eq rfl, fun H a ns hl ht hs => want_lawT T hl ht hs, fun base _ _ TB => ?_⟩
  have r := ok_law (w := w) (base := base) T TB
  rw [e1, e2] at r
  exact r
theorem walk {l : PySem.W.OpenLaw} {q : Program} {loose : List Str} {XP : (Str → Option Value) → Heap → Prop} {YP : World → Heap → Prop} {d : DefRec} {K : Params → PySem.W.Frag} (hn : l.most = some 63) (hdf : d.params.defaults = [])
    (hY : ∀ (w : World) (h : Heap), YP w h → (K w.params).In h)
    (F : ∀ (w : World) (mg : Str → Option Value) (fa : Addr) (h : Heap), YP w h → (K w.params).In h → h.Ns mainGlobals mg → mg d.name = some (.ref fa) →
      ∃ (fd : FuncData) (cs : List (Addr × Addr)) (sp : Sp), (∀ p ∈ cs, TabZ (K w.params) h p.1 p.2) ∧ (∀ (s : Shared) (u : Value), BindsTo s fd ⟨[u], []⟩ [("script", u)]) ∧
        (∀ (H : Hp) (a : Addr) (ns : List Int), ns.length ≤ 63 → (∀ p ∈ cs, H p.2 = some (.tbl #[])) → SqL (K w.params) H a (ns.map V.int) → sp [.ref a] H (fun v _ => v = .bl true) fun _ _ _ => False) ∧
        ∀ base : Heap, (K w.params).In base → base.Ns mainGlobals mg → (∀ p ∈ cs, LamX.TabB base mg p.1 p.2) → FnG l.prog w (K w.params) mg base CX0 24 fa fd ["script"] sp) :
    PySem.W.WalkO q loose XP YP l.row.toRowW d [] (fun f vs => PySem.call f vs) :=
  law_walkT (n := 63) (k := 24) (x := "script") (CX := fun _ => CX0) hn (by decide) hdf ⟨rfl, by decide, by decide⟩ hY F fun _ _ _ _ _ z => z
end K04
open PySem PySem.W PyProof.Rows in
set_option maxRecDepth 100000 in
set_option maxHeartbeats 0 in
theorem PySem.Challenge.cw_skipahead_k04_items_and_rows_judged_holds : PySem.Challenge.rw_skipahead_k04_items_and_rows_judged.Holds := by
  w_on; o_law; k_head; (case hw => w_witness2)
  k_fill
  refine K04.walk (l := PySem.Challenge.rw_skipahead_k04_items_and_rows_judged) rfl rfl (fun w h Y => PySem.W.km_in_of Y) ?F
  case F =>
    intro w mg fa h Y KX G hmg
    have tabs := PySem.W.km_tabs_of Y
    refine' K04.all_mk KX G hmg ?z_super ?a0 ?l0 ?c0 ?k0 ?a1 ?l1 ?c1 ?k1 ?a2 ?l2 ?c2 ?k2 ?a3 ?l3 ?c3 ?k3 ?a4 ?l4 ?c4 ?k4 ?a5 ?l5 ?c5 ?k5 ?a6 ?l6 ?c6 ?k6 ?a7 ?l7 ?c7 ?k7 ?a8 ?l8 ?c8 ?k8 ?a9 ?l9 ?c9 ?k9 ?a10 ?l10 ?c10 ?k10 ?a11 ?l11 ?c11 ?k11 ?a12 ?l12 ?c12 ?k12 ?a13 ?l13 ?c13 ?k13 ?a14 ?l14 ?c14 ?k14 ?a15 ?l15 ?c15 ?k15 ?a16 ?l16 ?c16 ?k16 ?a17 ?l17 ?c17 ?k17 ?a18 ?l18 ?c18 ?k18 ?a19 ?l19 ?c19 ?k19 ?a20 ?l20 ?c20 ?k20 ?a21 ?l21 ?c21 ?k21 ?a22 ?l22 ?c22 ?k22 ?a23 ?l23 ?c23 ?k23 ?a24 ?l24 ?c24 ?k24 ?a25 ?l25 ?c25 ?k25 ?a26 ?l26 ?c26 ?k26 ?a27 ?l27 ?c27 ?k27 ?a28 ?l28 ?c28 ?k28 ?a29 ?l29 ?c29 ?k29 ?a30 ?l30 ?c30 ?k30 ?a31 ?l31 ?c31 ?k31 ?a32 ?l32 ?c32 ?k32 ?a33 ?l33 ?c33 ?k33 ?a34 ?l34 ?c34 ?k34 ?a35 ?l35 ?c35 ?k35 ?a36 ?l36 ?c36 ?k36 ?a37 ?l37 ?c37 ?k37 ?a38 ?l38 ?c38 ?k38 ?kc__law_right ?kq__law_right ?kh__law_right ?ko__law_right ?kt__law_right ?a39 ?l39 ?c39 ?k39 ?ya_Book ?yo_Book ?yq_Book ?yr_Book___or__ ?yn_Book__pairs ?yn_Book__outcomes ?a40 ?l40 ?c40 ?k40 ?i40 ?a41 ?pl41 ?ph41 ?l41 ?c41 ?k41 ?i41 ?pc41 ?pf41 ?a42 ?pl42 ?ph42 ?l42 ?c42 ?k42 ?i42 ?pg42 ?pt42 ?a43 ?l43 ?c43 ?k43 ?i43 ?a44 ?l44 ?c44 ?k44 ?i44 ?a45 ?l45 ?c45 ?k45 ?i45 ?a46 ?l46 ?c46 ?k46 ?i46 ?a47 ?l47 ?c47 ?k47 ?i47 ?a48 ?l48 ?c48 ?k48 ?i48 ?a49 ?l49 ?c49 ?k49 ?i49 ?a50 ?l50 ?c50 ?k50 ?i50 ?a51 ?l51 ?c51 ?k51 ?i51 ?a52 ?l52 ?c52 ?k52 ?i52 ?a53 ?l53 ?c53 ?k53 ?i53 ?a54 ?l54 ?c54 ?k54 ?i54 ?z_abs ?z_all ?z_any ?z_bool ?z_dict ?z_enumerate ?z_int ?z_isinstance ?z_iter ?z_len ?z_list ?z_max ?z_min ?z_range ?z_repr ?z_sorted ?z_str ?z_tuple ?z_type ?v_MAX_LETTERS ?v_RESERVED ?w_RESERVED ?v_MAX_COMMANDS ?v_MAX_TAKES ?v_MAX_ANSWERS ?v_MARK ?w_MARK ?xa_AheadError ?xb_AheadError ?xa_InvalidBook ?xb_InvalidBook ?xa_InvalidOperation ?xb_InvalidOperation ?xa_UnknownName ?xi_UnknownName ?xl_UnknownName ?xd_UnknownName ?xo_UnknownName ?xv_UnknownName ?xf_UnknownName ?xc_UnknownName ?xb_UnknownName ?xt_C ?xt_B ?xt_E
    (case z_super => k_is)
    (case a0 => k_is)
    (case l0 => k_is)
    (case c0 => k_is)
    (case k0 => k_is)
    (case a1 => k_is)
    (case l1 => k_is)
    (case c1 => k_is)
    (case k1 => k_is)
    (case a2 => k_is)
    (case l2 => k_is)
    (case c2 => k_is)
    (case k2 => k_is)
    (case a3 => k_is)
    (case l3 => k_is)
    (case c3 => k_is)
    (case k3 => k_is)
    (case a4 => k_is)
    (case l4 => k_is)
    (case c4 => k_is)
    (case k4 => k_is)
    (case a5 => k_is)
    (case l5 => k_is)
    (case c5 => k_is)
    (case k5 => k_is)
    (case a6 => k_is)
    (case l6 => k_is)
    (case c6 => k_is)
    (case k6 => k_is)
    (case a7 => k_is)
    (case l7 => k_is)
    (case c7 => k_is)
    (case k7 => k_is)
    (case a8 => k_is)
    (case l8 => k_is)
    (case c8 => k_is)
    (case k8 => k_is)
    (case a9 => k_is)
    (case l9 => k_is)
    (case c9 => k_is)
    (case k9 => k_is)
    (case a10 => k_is)
    (case l10 => k_is)
    (case c10 => k_is)
    (case k10 => k_is)
    (case a11 => k_is)
    (case l11 => k_is)
    (case c11 => k_is)
    (case k11 => k_is)
    (case a12 => k_is)
    (case l12 => k_is)
    (case c12 => k_is)
    (case k12 => k_is)
    (case a13 => k_is)
    (case l13 => k_is)
    (case c13 => k_is)
    (case k13 => k_is)
    (case a14 => k_is)
    (case l14 => k_is)
    (case c14 => k_is)
    (case k14 => k_is)
    (case a15 => k_is)
    (case l15 => k_is)
    (case c15 => k_is)
    (case k15 => k_is)
    (case a16 => k_is)
    (case l16 => k_is)
    (case c16 => k_is)
    (case k16 => k_is)
    (case a17 => k_is)
    (case l17 => k_is)
    (case c17 => k_is)
    (case k17 => k_is)
    (case a18 => k_is)
    (case l18 => k_is)
    (case c18 => k_is)
    (case k18 => k_is)
    (case a19 => k_is)
    (case l19 => k_is)
    (case c19 => k_is)
    (case k19 => k_is)
    (case a20 => k_is)
    (case l20 => k_is)
    (case c20 => k_is)
    (case k20 => k_is)
    (case a21 => k_is)
    (case l21 => k_is)
    (case c21 => k_is)
    (case k21 => k_is)
    (case a22 => k_is)
    (case l22 => k_is)
    (case c22 => k_is)
    (case k22 => k_is)
    (case a23 => k_is)
    (case l23 => k_is)
    (case c23 => k_is)
    (case k23 => k_is)
    (case a24 => k_is)
    (case l24 => k_is)
    (case c24 => k_is)
    (case k24 => k_is)
    (case a25 => k_is)
    (case l25 => k_is)
    (case c25 => k_is)
    (case k25 => k_is)
    (case a26 => k_is)
    (case l26 => k_is)
    (case c26 => k_is)
    (case k26 => k_is)
    (case a27 => k_is)
    (case l27 => k_is)
    (case c27 => k_is)
    (case k27 => k_is)
    (case a28 => k_is)
    (case l28 => k_is)
    (case c28 => k_is)
    (case k28 => k_is)
    (case a29 => k_is)
    (case l29 => k_is)
    (case c29 => k_is)
    (case k29 => k_is)
    (case a30 => k_is)
    (case l30 => k_is)
    (case c30 => k_is)
    (case k30 => k_is)
    (case a31 => k_is)
    (case l31 => k_is)
    (case c31 => k_is)
    (case k31 => k_is)
    (case a32 => k_is)
    (case l32 => k_is)
    (case c32 => k_is)
    (case k32 => k_is)
    (case a33 => k_is)
    (case l33 => k_is)
    (case c33 => k_is)
    (case k33 => k_is)
    (case a34 => k_is)
    (case l34 => k_is)
    (case c34 => k_is)
    (case k34 => k_is)
    (case a35 => k_is)
    (case l35 => k_is)
    (case c35 => k_is)
    (case k35 => k_is)
    (case a36 => k_is)
    (case l36 => k_is)
    (case c36 => k_is)
    (case k36 => k_is)
    (case a37 => k_is)
    (case l37 => k_is)
    (case c37 => k_is)
    (case k37 => k_is)
    (case a38 => k_is)
    (case l38 => k_is)
    (case c38 => k_is)
    (case k38 => k_is)
    (case kc__law_right => k_is)
    (case kq__law_right => rfl)
    (case kh__law_right => kernel_rfl)
    (case ko__law_right => kernel_rfl)
    (case kt__law_right => exact tabs _ (by k_mem))
    (case a39 => k_is)
    (case l39 => k_is)
    (case c39 => k_is)
    (case k39 => k_is)
    (case ya_Book => k_is)
    (case yo_Book => kernel_rfl)
    (case yq_Book => k_is)
    (case yr_Book___or__ => kernel_rfl)
    (case yn_Book__pairs => k_is)
    (case yn_Book__outcomes => k_is)
    (case a40 => k_is)
    (case l40 => k_is)
    (case c40 => k_is)
    (case k40 => k_is)
    (case i40 => k_is)
    (case a41 => k_is)
    (case pl41 => k_is)
    (case ph41 => rfl)
    (case l41 => k_is)
    (case c41 => k_is)
    (case k41 => k_is)
    (case i41 => k_is)
    (case pc41 => kernel_rfl)
    (case pf41 => kernel_rfl)
    (case a42 => k_is)
    (case pl42 => k_is)
    (case ph42 => rfl)
    (case l42 => k_is)
    (case c42 => k_is)
    (case k42 => k_is)
    (case i42 => k_is)
    (case pg42 => k_is)
    (case pt42 => k_is)
    (case a43 => k_is)
    (case l43 => k_is)
    (case c43 => k_is)
    (case k43 => k_is)
    (case i43 => k_is)
    (case a44 => k_is)
    (case l44 => k_is)
    (case c44 => k_is)
    (case k44 => k_is)
    (case i44 => k_is)
    (case a45 => k_is)
    (case l45 => k_is)
    (case c45 => k_is)
    (case k45 => k_is)
    (case i45 => k_is)
    (case a46 => k_is)
    (case l46 => k_is)
    (case c46 => k_is)
    (case k46 => k_is)
    (case i46 => k_is)
    (case a47 => k_is)
    (case l47 => k_is)
    (case c47 => k_is)
    (case k47 => k_is)
    (case i47 => k_is)
    (case a48 => k_is)
    (case l48 => k_is)
    (case c48 => k_is)
    (case k48 => k_is)
    (case i48 => k_is)
    (case a49 => k_is)
    (case l49 => k_is)
    (case c49 => k_is)
    (case k49 => k_is)
    (case i49 => k_is)
    (case a50 => k_is)
    (case l50 => k_is)
    (case c50 => k_is)
    (case k50 => k_is)
    (case i50 => k_is)
    (case a51 => k_is)
    (case l51 => k_is)
    (case c51 => k_is)
    (case k51 => k_is)
    (case i51 => k_is)
    (case a52 => k_is)
    (case l52 => k_is)
    (case c52 => k_is)
    (case k52 => k_is)
    (case i52 => k_is)
    (case a53 => k_is)
    (case l53 => k_is)
    (case c53 => k_is)
    (case k53 => k_is)
    (case i53 => k_is)
    (case a54 => k_is)
    (case l54 => k_is)
    (case c54 => k_is)
    (case k54 => k_is)
    (case i54 => k_is)
    (case z_abs => k_is)
    (case z_all => k_is)
    (case z_any => k_is)
    (case z_bool => k_is)
    (case z_dict => k_is)
    (case z_enumerate => k_is)
    (case z_int => k_is)
    (case z_isinstance => k_is)
    (case z_iter => k_is)
    (case z_len => k_is)
    (case z_list => k_is)
    (case z_max => k_is)
    (case z_min => k_is)
    (case z_range => k_is)
    (case z_repr => k_is)
    (case z_sorted => k_is)
    (case z_str => k_is)
    (case z_tuple => k_is)
    (case z_type => k_is)
    (case v_MAX_LETTERS => k_is)
    (case v_RESERVED => k_is)
    (case w_RESERVED => k_is)
    (case v_MAX_COMMANDS => k_is)
    (case v_MAX_TAKES => k_is)
    (case v_MAX_ANSWERS => k_is)
    (case v_MARK => k_is)
    (case w_MARK => k_is)
    (case xa_AheadError => k_is)
    (case xb_AheadError => kernel_rfl)
    (case xa_InvalidBook => k_is)
    (case xb_InvalidBook => kernel_rfl)
    (case xa_InvalidOperation => k_is)
    (case xb_InvalidOperation => kernel_rfl)
    (case xa_UnknownName => k_is)
    (case xi_UnknownName => k_is)
    (case xl_UnknownName => k_is)
    (case xd_UnknownName => k_is)
    (case xo_UnknownName => k_is)
    (case xv_UnknownName => rfl)
    (case xf_UnknownName => kernel_rfl)
    (case xc_UnknownName => k_is)
    (case xb_UnknownName => kernel_rfl)
    (case xt_C => kernel_rfl)
    (case xt_B => kernel_rfl)
    (case xt_E => kernel_rfl)
