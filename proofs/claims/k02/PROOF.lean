import PyProof.Rows.All
import Wide.All
import OpenK.AllK
import Wide.FinOn
import HandS.ForMost
import HandS.IsInst
import HandS.Walk
import HandS.Exc
import HandS.Style
import HandS.Evl
import KE.KExcSuper
import KE.KExcIs
import KE.KSuper
import HandS.ExcInit
import HandS.ExcBuiltin
import HandS.ExcOwn
import HandS.ExcIs
import HandS.ExcValue
import HandS.TryMany
import HandS.FStr
import HandS.Steps
import HandS.ClsMeth
import HandS.ExcField
import HandS.FStrTup
import HandS.Property
import HandS.OwnEq
import KE.KCallOwn
import KE.KOpsOwn
import HandS.Star
import HandS.Defaults
import KE.KParD
import HandS.ExcCtx
import HandS.More
import HandS.Conv
import HandS.DictComp
import HandS.ListItems
import KE.KEqDict
import KE.KDictSum
import HandS.RaiseMore
import HandS.Small
import HandS.Dict
import HandS.Lambda
import HandS.EndTab
import PyProof.StrLawsRepr
import PyProof.InstNe
import HandS.DictTup
import PySem.Challenge.RW_skipahead_k02_whole_books_as_values
set_option Elab.async false
set_option linter.all false
set_option maxRecDepth 100000
set_option maxHeartbeats 4000000
/-! Defs whose surroundings have no repr under way: the room with that fact, a def's promise in such a room, its calls, the law's end. -/
namespace G9
open PySem PySem.Spec PyProof.Rows L2

structure RoomG (k : Nat) (A : Around) : Prop where
  r : Room k A
  g : A.guards = some []
theorem RoomG.down {j k : Nat} {A : Around} (h : RoomG k A) (l : j ≤ k) : RoomG j A := ⟨h.r.mono l, h.g⟩

structure FnG (P : Program) (w : World) (K : PySem.W.Frag) (mg : Str → Option Value) (base : Heap) (CX : CXT) (k : Nat) (f : Addr) (fd : FuncData) (ps : List Str) (sp : Sp) : Prop where
  count : ∀ vs H Q E, sp vs H Q E → vs.length = ps.length
  goes : ∀ (A : Around) (fs : List Env) (s : Shared) (H : Hp) (as : Args) (us : List Value) (vs : List V) (Q : VK) (E : XK), RoomG k A → Env0 P w K mg base A fs s H →
    BindsTo s fd as (ps.zip us) → Vals vs us → sp vs H Q E → codeAny (model P w) A (.call (.ref f) as) (CR CX fs P w H s Q E) s

section
variable {P : Program} {w : World} {K : PySem.W.Frag} {mg : Str → Option Value} {base : Heap} {CX : CXT} {k : Nat} {f : Addr} {fd : FuncData} {ps N : List Str} {sp : Sp}
theorem FnG.up {j : Nat} (F : FnG P w K mg base CX j f fd ps sp) (l : j ≤ k) : FnG P w K mg base CX k f fd ps sp :=
  ⟨F.count, fun A fs s H as us vs Q E h => F.goes A fs s H as us vs Q E (h.down l)⟩
theorem FnG.weaker {sp' : Sp} (F : FnG P w K mg base CX k f fd ps sp) (i : ∀ vs H Q E, sp' vs H Q E → sp vs H Q E) : FnG P w K mg base CX k f fd ps sp' :=
  ⟨fun vs H Q E h => F.count vs H Q E (i vs H Q E h), fun A fs s H as us vs Q E a b c d e => F.goes A fs s H as us vs Q E a b c d (i vs H Q E e)⟩

/-- a def by its body -/
theorem by_body {name qual : Str} {params : Arguments} {body : List Stmt} {scope : Scope} {dV kV doc pm cdv ct oc : Value} {an od : Option Addr} {osl : Array (Option Value)}
    (at_ : K.lookup f = some ⟨oc, od, .func (PySem.W.fnOf name qual params body scope dV kV doc pm an cdv ct), osl⟩) (cd : PySem.W.codeIn K cdv qual = true) (S : FnScope N ps scope)
    (count : ∀ vs H Q E, sp vs H Q E → vs.length = ps.length)
    (hb : ∀ (A : Around) (fs : List Env) (s : Shared) (H : Hp) (vs : List V) (Q : VK) (E : XK), RoomG k (A.deeper (envOfC qual scope s.heap.objs.size f cdv)) → sp vs H Q E →
      ∃ t, PSs (cxOf CX P w K mg base N qual scope f cdv A fs s H E) body t ∧ t { nx := fun _ G => Q .non G, rt := Q } (start N vs) H) :
    FnG P w K mg base CX (k + 1) f (PySem.W.fnOf name qual params body scope dV kV doc pm an cdv ct) ps sp := by
  constructor
  · exact count
  intro A fs s H as us vs Q E room env bind rel want
  have same := count _ _ _ _ want
  have inS : K.In s.heap := env.mod.kin.keeps fun b o z => (env.bs b o z).1
  have noLim : s.heap.NoLimit := env.mod.nolimit.keeps fun b o z => (env.bs b o z).1
  have kinds : ∀ y ∈ ps.zip us, scope.names.lookup y.1 = some .local ∨ (scope.names.lookup y.1 = some .cell ∧ ((cellsFrom (s.heap.objs.size + 1) scope.names []).lookup y.1).isSome = true) := by
    rintro ⟨n, v⟩ hy
    rcases S.par n (List.of_mem_zip hy).1 with z | z
    · exact Or.inl z
    · exact Or.inr ⟨z, PySem.W.cellsFrom_some _ _ _ (.inl z)⟩
  refine codeAny_call_function room.r.depth (inS _ _ at_) rfl S.co S.gen rfl (PySem.W.codeRec_of inS cd) (bind _ _ _ _ ?_)
  refine wpAny_newFunctionEnv_cells S.kind kinds fun en ee s1 x => ?_
  subst ee
  refine ⟨noLim.keeps x.toInCall.keep, codeAny_func ?_⟩
  obtain ⟨t, ht, hq⟩ := hb A fs s H vs Q E ⟨room.r.deeper _, room.g⟩ want
  have J := inv_start (CX := CX) (E := E) S room.r.hd env same rel x
  have done : ∀ {τ : L2.St} {G : Hp} {v : V} {u : Value} {z : Shared}, Inv (cxOf CX P w K mg base N qual scope f cdv A fs s H E) [] τ G z → RelV v u → Q v G → CE fs P w H s Q u z :=
    fun {_ G v _ _} I r q => ⟨v, G, I.os, I.bare, I.base, I.hok, r, q⟩
  refine wpAny_mono (ht.run [] s1 (start N vs) H _ J hq) ?_ fun _ _ z => z
  intro fl z hz
  cases fl with
  | next =>
    obtain ⟨_, _, I, q⟩ := hz
    exact done (v := V.non) (u := Value.none) I rfl q
  | ret u =>
    obtain ⟨_, _, _, I, r, q⟩ := hz
    exact done I r q
  | brk => exact hz.elim fun _ h => h.elim fun _ h => h.2.elim
  | cont => exact hz.elim fun _ h => h.elim fun _ h => h.2.elim

/-- a def of the text, nothing raised leaves it -/
theorem okG {x qual : Str} {st : Stmt} (F : Fun K x qual st f fd) (S : FnScope N ps (defScope st)) (count : ∀ vs H Q E, sp vs H Q E → vs.length = ps.length)
    (hb : ∀ (cdv : Value) (A : Around) (fs : List Env) (s : Shared) (H : Hp) (vs : List V) (Q : VK) (E : XK), RoomG k (A.deeper (envOfC qual (defScope st) s.heap.objs.size f cdv)) → sp vs H Q E →
      ∃ t, PSs (cxOf CX0 P w K mg base N qual (defScope st) f cdv A fs s H E).nox (defBody st) t ∧ t { nx := fun _ G => Q .non G, rt := Q } (start N vs) H) : FnG P w K mg base CX0 (k + 1) f fd ps sp := by
  obtain ⟨_, _, _, _, _, _, cdv, _, _, rfl, lk, cd⟩ := F.ex
  refine by_body lk cd S count fun A fs s H vs Q E room want => ?_
  obtain ⟨t, h, q⟩ := hb cdv A fs s H vs Q E room want
  exact ⟨t, h.nox, q⟩
end

section
variable {X : Cx} {CX : CXT} {k : Nat} {f C : Addr} {fd : FuncData} {ps : List Str} {sp : Sp} {dvs : List V} {ds : List Value} {E : XK} {x m : Str} {p pos apos : Pos} {e o : Expr} {es : List Expr} {ta : TE} {t : TA}
theorem callee {pins : List (Addr × Obj)} {σ : L2.St} {H : Hp} {s : Shared} {Q : VK} {us : List Value} {vs : List V} (F : FnG X.prog X.w X.K X.mg X.base CX k f fd ps sp) (room : RoomG k X.A) (hb : Binds X.K fd ps ds) (hd : Vals dvs ds) (hx : Passes CX X E)
    (I : Inv X pins σ H s) (r : Vals vs us) (want : sp (vs ++ dvs) H Q E) : wpAny (model X.prog X.w) X.A (call (.ref f) us) (EP X pins σ Q) X.xe s := by
  have rr : Vals (vs ++ dvs) (us ++ ds) := r.append hd
  have len : (us ++ ds).length = ps.length := rr.length.symm.trans (F.count _ _ _ _ want)
  refine wpAny_call (codeAny_mono (F.goes X.A X.stack s H ⟨us, []⟩ (us ++ ds) (vs ++ dvs) Q E room I.env0 (hb s us I.kIn len) rr want) ?_)
  intro res z hz
  match res, hz with
  | .error e, hz => exact hx pins σ H s e z I hz
  | .ok (.ret u), hz => exact I.after hz

theorem pe_callG (F : FnG X.prog X.w X.K X.mg X.base CX k f fd ps sp) (room : RoomG k X.A) (hg : Gl X x) (hm : X.mg x = some (.ref f)) (hk : PySem.W.keepIn X.K (.ref f) = true) (hb : Binds X.K fd ps ds) (hd : Vals dvs ds) (hx : Passes CX X E)
    (ha : PA X (e :: es) t) (nd : (x == ("__debug__" : Str)) = false := by decide) (he : starEach (e :: es) X.env = (false, eval e X.env) :: starEach es X.env := by rfl) (hp : (backTo pos (starEach es X.env)).any (·.1) = false := by rfl) :
    PE X (.Call (.Name x p) (e :: es) [] pos) (tCall sp dvs E t) := by
  constructor
  intro pins s σ H Q I want
  refine wpAny_Call_Name_kw (ld_glob I hg hm ?_ nd)
  exact PySem.W.callWith_K (h₀ := X.base) I.ok.mod.kin hk (thn (ha.run pos pins s σ H _ I want) fun us z ⟨vs, G, J, r, q⟩ => ⟨J.kIn, callee F room hb hd hx J r q⟩) he hp
theorem pe_callG0 (F : FnG X.prog X.w X.K X.mg X.base CX k f fd ps sp) (room : RoomG k X.A) (hg : Gl X x) (hm : X.mg x = some (.ref f)) (hk : PySem.W.keepIn X.K (.ref f) = true) (hb : Binds X.K fd ps ds) (hd : Vals dvs ds) (hx : Passes CX X E)
    (nd : (x == ("__debug__" : Str)) = false := by decide) : PE X (.Call (.Name x p) [] [] pos) (tCall sp dvs E tNil) := by
  constructor
  intro pins s σ H Q I want
  exact wpAny_Call_Name_kw (ld_glob I hg hm (PySem.W.callWith_K0 I.kIn hk (callee (us := []) F room hb hd hx I .nil want)) nd)
end

/-- the law's call at the outermost place: the script is a list of nums; nothing is repr'd -/
theorem law_end {P : Program} {w : World} {K : PySem.W.Frag} {mg mb : Str → Option Value} {CX : CXT} {k : Nat} {fa a : Addr} {fd : FuncData} {x : Str} {sp : Sp} {z : Shared} {vs : List Value} {ns : List Int}
    (inK : K.In z.heap) (glo : z.heap.Ns mainGlobals mg) (blt : z.heap.Ns builtinsNs mb) (boot : ∀ y : Str, y ≠ "__name__" → mb y = bootBuiltins y) (lim : z.heap.NoLimit) (bare : z.gens = #[])
    (ha : z.heap.get? a = some { cls := .type "list", data := .seq vs.toArray }) (nums : IntsAre vs ns) (small : ns.length ≤ sizeLine) (room : Room k callerA)
    (F : ∀ base : Heap, K.In base → base.Ns mainGlobals mg → FnG P w K mg base CX k fa fd [x] sp) (bind : ∀ (s : Shared) (u : Value), BindsTo s fd ⟨[u], []⟩ [(x, u)])
    (want : ∀ H : Hp, SqL K H a (ns.map V.int) → sp [.ref a] H (fun v _ => v = .bl true) fun _ _ _ => False)
    (none_out : ∀ H e s', CX [] H z (fun _ _ _ => False) e s' → False) :
    codeAny (model P w) callerA (.call (.ref fa) ⟨[.ref a], []⟩) (fun r s' => r = .ok (.ret (.bool true)) ∧ OldK z.heap s'.heap ∧ s'.os = z.os ∧ AllBare s'.gens) z := by
  have rel := vals_ints nums
  -- at an abstract heap that tracks the script at most, as a locked list
  suffices core : ∀ H : Hp, (∀ b u, H b = some u → b = a ∧ K.lookup a = none ∧ ∃ o xs, u = .frz o (.lst xs)) → SqL K H a (ns.map V.int) → HOk P w H z.heap →
      codeAny (model P w) callerA (.call (.ref fa) ⟨[.ref a], []⟩) (fun r s' => r = .ok (.ret (.bool true)) ∧ OldK z.heap s'.heap ∧ s'.os = z.os ∧ AllBare s'.gens) z by
    cases there : K.lookup a with
    | some o =>
      have same := inK a o there
      rw [ha] at same
      cases same
      refine core (fun _ => none) (fun b u q => by cases (show (none : Option HO) = some u from q)) (Or.inr ⟨_, vs.toArray, _, there, rfl, rfl, rfl, ?_, by simpa using rel⟩) fun b u q => by cases (show (none : Option HO) = some u from q)
      have := nums.length
      simp only [List.size_toArray]
      omega
    | none =>
      have only : ∀ b u, (if b = a then some (HO.frz { cls := .type "list", data := .seq vs.toArray } (.lst (ns.map V.int))) else none) = some u → b = a ∧ u = HO.frz { cls := .type "list", data := .seq vs.toArray } (.lst (ns.map V.int)) := by
        intro b u q
        by_cases hb : b = a
        · rw [if_pos hb] at q
          exact ⟨hb, (Option.some.inj q).symm⟩
        · rw [if_neg hb] at q
          cases q
      refine core (fun b => if b = a then some (.frz { cls := .type "list", data := .seq vs.toArray } (.lst (ns.map V.int))) else none) (fun b u q => ?_) (Or.inl (Or.inr ⟨_, if_pos rfl⟩)) fun b u q => ?_
      · obtain ⟨e1, e2⟩ := only b u q
        exact ⟨e1, there, _, _, e2⟩
      · obtain ⟨e1, e2⟩ := only b u q
        subst e1
        subst e2
        exact ⟨ha, by rw [List.length_map]; exact small, vs, _, rel, ha⟩
  intro H tracked script ok
  have kept : ∀ {b : Addr} {o : Obj}, z.heap.get? b = some o → H b = none → (hidT z.heap H).get? b = some o := fun e n => hidT_get e n
  have noDict : ∀ {b : Addr} {o : Obj} {es : Array DictEntry} {ep : Nat}, z.heap.get? b = some o → o.data = .dict es ep → H b = none := by
    intro b o es ep e d
    cases q : H b with
    | none => rfl
    | some u =>
      obtain ⟨rfl, _, _⟩ := tracked b u q
      rw [ha] at e
      cases e
      cases d
  have nsOf : ∀ {b : Addr} {m : Str → Option Value}, z.heap.Ns b m → (hidT z.heap H).Ns b m := by
    rintro b m ⟨o, es, ep, e, d, r⟩
    exact ⟨o, es, ep, kept e (noDict e d), d, r⟩
  have inB : K.In (hidT z.heap H) := by
    intro b o e
    refine kept (inK b o e) ?_
    cases q : H b with
    | none => rfl
    | some u =>
      obtain ⟨rfl, none', _⟩ := tracked b u q
      rw [none'] at e
      cases e
  have md : Mod K mg (hidT z.heap H) := ⟨inB, nsOf glo, ⟨mb, nsOf blt, boot⟩, by obtain ⟨mc, h1, h2⟩ := lim; exact ⟨mc, nsOf h1, h2⟩⟩
  have env : Env0 P w K mg (hidT z.heap H) callerA [] z H :=
    ⟨rfl, md, fun b o e => of_hidT e, Nat.le_of_eq (hidT_size _ _), trivial, (fun b hb => nomatch hb), ok, .of_eq bare⟩
  refine codeAny_mono ((F _ inB (nsOf glo)).goes callerA [] z H ⟨[.ref a], []⟩ [.ref a] [.ref a] _ _ ⟨room, rfl⟩ env (bind z (.ref a)) (.cons rfl .nil) (want H script)) ?_
  intro res s' h
  match res, h with
  | .error e, h => exact (none_out H e s' h).elim
  | .ok (.ret u), h =>
    obtain ⟨v, G, os, br, un, ok', rv, q⟩ := h
    have q' : v = .bl true := q
    subst q'
    have eu : u = Value.bool true := rv
    subst eu
    refine ⟨rfl, OldK.of_keep fun b o e => ?_, os, br⟩
    cases hq : H b with
    | none => exact un.keep b o e hq (fun t => nomatch t) (fun t => nomatch t)
    | some t =>
      obtain ⟨rfl, _, ob, xs, rfl⟩ := tracked b t hq
      have later := ok' b _ (un.frzs b ob _ hq)
      have now := ok b _ hq
      obtain ⟨g1, _⟩ := now
      obtain ⟨g2, _⟩ := later
      rw [e] at g1
      cases g1
      exact g2

theorem law_walk {l : PySem.W.OpenLaw} {n k : Nat} {q : Program} {loose : List Str} {XP : (Str → Option Value) → Heap → Prop} {YP : World → Heap → Prop} {d : DefRec} {K : Params → PySem.W.Frag} {CX : World → CXT} {sp : World → Sp} {x : Str}
    (most : l.most = some n) (small : n ≤ sizeLine) (plain : d.params.defaults = []) (room : Room k callerA) (inK : ∀ (w : World) (h : Heap), YP w h → (K w.params).In h)
    (F : ∀ (w : World) (mg : Str → Option Value) (fa : Addr) (h : Heap), (K w.params).In h → h.Ns mainGlobals mg → mg d.name = some (.ref fa) →
      ∃ fd : FuncData, (∀ (s : Shared) (u : Value), BindsTo s fd ⟨[u], []⟩ [(x, u)]) ∧ ∀ base : Heap, (K w.params).In base → base.Ns mainGlobals mg → FnG l.prog w (K w.params) mg base (CX w) k fa fd [x] (sp w))
    (want : ∀ (w : World) (H : Hp) (a : Addr) (ns : List Int), ns.length ≤ n → SqL (K w.params) H a (ns.map V.int) → sp w [.ref a] H (fun v _ => v = .bl true) fun _ _ _ => False)
    (none_out : ∀ (w : World) (H : Hp) (s : Shared) (e : Value) (s' : Shared), CX w [] H s (fun _ _ _ => False) e s' → False) :
    PySem.W.WalkO q loose XP YP l.row.toRowW d [] (fun f vs => PySem.call f vs) := by
  refine Att.attach_call most plain ?_
  intro w s₀ z mg mb fa o pm cd doc a vs ns G Y ho hd hcd hmg hobj hints hlen hg
  obtain ⟨fd, hb, hF⟩ := F w mg fa _ (inK w _ Y) G.T.g hmg
  exact law_end (inK w _ Y) G.T.g G.T.b G.T.builtins G.T.nolimit hg hobj hints (Nat.le_trans hlen small) room hF hb (fun H hS => want w H a ns hlen hS) fun H e s' => none_out w H z e s'
end G9

/-! Further rules: powers, repr of data, a text many times, rows of constants; readings step by step. -/
namespace G9
open PySem PySem.Spec PyProof.Rows L2
section
variable {X : Cx} {a b c e : Expr} {ta tb tc : TE} {pos : Pos}

def CPowW (i j : Int) : Prop := 0 ≤ j ∧ (Builtin.Int.intBits i : Int) * j ≤ 2 ^ 27
instance {i j : Int} : Decidable (CPowW i j) := inferInstanceAs (Decidable (0 ≤ j ∧ (Builtin.Int.intBits i : Int) * j ≤ 2 ^ 27))
theorem op_powW : OpR X (binaryOp .Pow) (rI CPowW fun i j => .int (i ^ j.toNat)) := opI fun _ _ _ _ _ _ _ c q => pow_int c.1 c.2 q

theorem rep_size {α : Type} (a : Array α) : ∀ (n : Nat) (b : Array α), ((List.replicate n a).foldl (· ++ ·) b).size = b.size + n * a.size
  | 0, b => by simp
  | n + 1, b => by
    rw [List.replicate_succ, List.foldl_cons, rep_size a n (b ++ a), Array.size_append, Nat.add_mul, Nat.one_mul]
    omega
theorem rep_mem {α : Type} {a : Array α} {x : α} : ∀ {n : Nat} {b : Array α}, x ∈ ((List.replicate n a).foldl (· ++ ·) b).toList → x ∈ b.toList ∨ x ∈ a.toList
  | 0, b, h => Or.inl h
  | n + 1, b, h => by
    rw [List.replicate_succ, List.foldl_cons] at h
    rcases rep_mem h with h | h
    · rw [Array.toList_append] at h
      exact List.mem_append.mp h
    · exact Or.inr h
/-- a text n times, 2 ≤ n -/
def rTimes : R2 := fun x y H Q => ∃ (z : Str) (n : Nat), x = .str z ∧ y = .int (n : Int) ∧ 2 ≤ n ∧ 1 ≤ z.length ∧ z.length * n ≤ 1000000 ∧ Q (.str ⟨(List.replicate n z.cps).foldl (· ++ ·) #[]⟩) H
theorem op_times : OpR X (binaryOp .Mult) rTimes := by
  intro pins s σ H x y v u Q I rx ry h
  obtain ⟨z, n, rfl, rfl, h2, h1, hz, q⟩ := h
  obtain ⟨t, rfl⟩ := rx
  obtain ⟨t', rfl⟩ := ry
  have hn : n ≤ 1000000 := Nat.le_trans (Nat.le_mul_of_pos_left n h1) hz
  have n1 : ¬ ((n : Int) < 1) := by omega
  have n2 : (((n : Int) == 1) || z.length == 0) = false := by
    have e1 : ((n : Int) == 1) = false := by
      rw [beq_eq_false_iff_ne]
      omega
    have e2 : (z.length == 0) = false := by
      rw [beq_eq_false_iff_ne]
      omega
    rw [e1, e2]
    rfl
  have zl : z.length ≤ 1000000 := Nat.le_trans (Nat.le_mul_of_pos_right z.length (by omega)) hz
  refine PySem.P.mul_str ?_ (fun _ _ => ?_) (fun _ _ => ?_) ?_
  · rw [decide_eq_false (by omega), decide_eq_false (by omega)]
    rfl
  · have hd : (1000000 : Int) ≤ (2 ^ 63 - 1) / (n : Int) := by
      rw [Int.le_ediv_iff_mul_le (by omega)]
      omega
    omega
  · show decide (z.length * (n : Int).toNat > sizeLine) = false
    rw [sizeLine_eq]
    simp only [Int.toNat_natCast]
    exact decide_eq_false (by omega)
  · rw [if_neg n1, if_neg (by rw [n2]; exact Bool.false_ne_true), Int.toNat_natCast]
    refine ⟨?_, ⟨.str _, H, I.tok _, ⟨_, rfl⟩, q⟩⟩
    show ((List.replicate n z.cps).foldl (· ++ ·) #[]).size ≤ sizeLine
    rw [rep_size, sizeLine_eq]
    have e : z.length = z.cps.size := rfl
    rw [Nat.mul_comm n, ← e]
    show 0 + z.length * n ≤ 16777216
    omega

/-- repr of a list or a tuple of data -/
def rRepr (K : PySem.W.Frag) : List V → Hp → VK → Prop := fun xs H Q => ∃ (p : Addr) (d : PyData), xs = [.ref p] ∧ Dp K H (.ref p) d ∧ d.showable = true ∧ d.hasDict = false ∧ d.depth ≤ 60 ∧ d.shown.length ≤ sizeLine ∧ Q (.str d.shown) H
theorem call_reprD {k : Nat} (room : RoomG k X.A) : CallR X (.builtin "repr") (rRepr X.K) := by
  intro pins s σ H xs us Q I r h
  obtain ⟨p, d, rfl, hd, h1, h2, h3, h4, q⟩ := h
  obtain ⟨u, rfl, r1⟩ := vals1 r
  obtain ⟨as, rd⟩ := Dp.reads I d _ _ hd r1
  have eu : u = Value.ref p := r1
  subst eu
  have un := room.r.units
  exact repr_of_reads' rd h1 (fun z => by rw [h2] at z; cases z) room.g (by omega) (fun _ _ z => z) (fun h' t tk k => ⟨.str d.shown, H, I.kept k, ⟨t, rfl⟩, q⟩) h4

theorem pe_tyV {x : Str} {n : String} (hg : Gl X x) (hm : X.mg x = none) (hv : bootBuiltins x = some (.type n)) (h1 : x ≠ "__name__" := by decide) (h2 : (x == ("__debug__" : Str)) = false := by decide) : PE X (.Name x pos) (tC (.ty n)) := pe_bltn hg hm hv rfl h1 h2
/-- // by a positive divisor below 2^64 -/
def CDivW (i j : Int) : Prop := 0 < j ∧ j < 18446744073709551616
theorem op_fdivW : OpR X (binaryOp .FloorDiv) (rI CDivW fun i j => .int (i / j)) := opI fun i j _ _ _ _ _ hc q => by
  have h1 : (0 : Int) < j := hc.1
  have h2 : j < 18446744073709551616 := hc.2
  refine floordiv_int (by omega) (by rw [Int.fdiv_eq_ediv_of_nonneg i (by omega)]; exact q) (.inl (PyProof.noPylong_of_log2 ?_))
  have h3 : j.natAbs < 2 ^ 64 := by omega
  have h4 : j.natAbs ≠ 0 := by omega
  exact Nat.lt_trans ((Nat.log2_lt h4).mpr h3) (by decide)
/-! ### rows of constants -/
def cV : Expr → Option V
  | .Constant (.int i) _ _ => some (.int i)
  | .Constant (.bool k) _ _ => some (.bl k)
  | .Constant .none _ _ => some .non
  | .Constant (.str z) _ _ => some (.str z)
  | _ => none
def cVs : List Expr → Option (List V)
  | [] => some []
  | e :: es => match cV e, cVs es with
    | some v, some vs => some (v :: vs)
    | _, _ => none
def tConsts (vs : List V) : TA := fun _ H Q => Q vs H
theorem pe_const {e : Expr} {v : V} (h : cV e = some v) : PE X e (tC v) := by
  unfold cV at h
  split at h
  · cases h; exact pe_int
  · cases h; exact pe_bl
  · cases h; exact pe_non
  · cases h; exact pe_str
  · cases h
theorem star_const {e : Expr} {v : V} (h : cV e = some v) (es : List Expr) (env : Env) : starEach (e :: es) env = (false, eval e env) :: starEach es env := by
  unfold cV at h
  split at h
  · rfl
  · rfl
  · rfl
  · rfl
  · cases h
theorem pa_consts : ∀ {es : List Expr} {vs : List V}, cVs es = some vs → PA X es (tConsts vs)
  | [], vs, h => by
    cases h
    exact pa_nil
  | e :: es, vs, h => by
    unfold cVs at h
    split at h
    · rename_i v vs' h1 h2
      cases h
      exact pa_cons (pe_const h1) (pa_consts h2) (star_const h1 es X.env)
    · cases h

/-! ### readings with names -/
def rInt : List V → Hp → VK → Prop := fun xs H Q => (∃ i, xs = [.int i] ∧ Q (.int i) H) ∨ ∃ k, xs = [.bl k] ∧ Q (.int (if k then 1 else 0)) H
theorem c_int : CallR X (.type "int") rInt := call_int1
def rAbs : List V → Hp → VK → Prop := fun xs H Q => ∃ i, xs = [.int i] ∧ Q (.int (if i < 0 then -i else i)) H
theorem c_abs : CallR X (.builtin "abs") rAbs := call_abs
def rMax2 : List V → Hp → VK → Prop := fun xs H Q => ∃ i j, xs = [.int i, .int j] ∧ Q (.int (if j > i then j else i)) H
theorem c_max2 (hc : X.calm = true) : CallR X (.builtin "max") rMax2 := call_max2 hc
def rMin2 : List V → Hp → VK → Prop := fun xs H Q => ∃ i j, xs = [.int i, .int j] ∧ Q (.int (if j < i then j else i)) H
theorem c_min2 (hc : X.calm = true) : CallR X (.builtin "min") rMin2 := call_min2 hc
def rLen (K : PySem.W.Frag) : List V → Hp → VK → Prop := fun xs H Q => ∃ x n, xs = [x] ∧ LenV K x H n ∧ Q (.int (n : Nat)) H
theorem c_len : CallR X (.builtin "len") (rLen X.K) := call_len
def rAddStr : R2 := fun x y H Q => ∃ i j, x = .str i ∧ y = .str j ∧ i.length + j.length ≤ sizeLine ∧ Q (.str (i ++ j)) H
theorem o_addS : OpR X (binaryOp .Add) rAddStr := op_add_str
def rLeStr : R2 := fun x y H Q => ∃ i j, x = .str i ∧ y = .str j ∧ Q (.bl (!decide (j.cps.toList < i.cps.toList))) H
theorem o_leS : OpR X (compareOp .LtE) rLeStr := op_le_str
def rListOf (K : PySem.W.Frag) : List V → Hp → VK → Prop := fun xs H Q => ∃ p ys, xs = [.ref p] ∧ (SqL K H p ys ∨ SqT K H p ys) ∧ ∀ l, H l = none → Q (.ref l) (upd H l (.lst ys))
theorem c_list : CallR X (.type "list") (rListOf X.K) := call_list_of
def rInS : R2 := fun x y H Q => ∃ (c : Nat) (z : Str), x = .str ⟨#[c]⟩ ∧ y = .str z ∧ Q (.bl (decide (c ∈ z.cps.toList))) H
theorem o_inS : OpR X (compareOp .In) rInS := op_in_sign
def rNinS : R2 := fun x y H Q => ∃ (c : Nat) (z : Str), x = .str ⟨#[c]⟩ ∧ y = .str z ∧ Q (.bl (!decide (c ∈ z.cps.toList))) H
theorem o_ninS : OpR X (compareOp .NotIn) rNinS := op_notIn_sign
end

/-! ### readings, step by step -/
section
variable {K : PySem.W.Frag} {σ : L2.St} {H : Hp} {ta tb tc te : TE} {t u : TT} {tar : TA} {x y z v : V} {r r' : R2} {Q : VK} {D : Ends} {s1 s2 : TS} {g : TG} {sp : Sp} {dvs : List V} {E : XK}
theorem s_var {i : Nat} (h : σ[i]? = some (some v)) (q : Q v H) : tVar i σ H Q := ⟨v, h, q⟩
theorem s_c (q : Q v H) : tC v σ H Q := q
theorem s_op (q : ta σ H fun x H1 => tb σ H1 fun y H2 => r x y H2 Q) : tOp r ta tb σ H Q := q
theorem s_un {rr : V → Hp → VK → Prop} (q : ta σ H fun x H1 => rr x H1 Q) : tUn rr ta σ H Q := q
theorem s_cb {rr : List V → Hp → VK → Prop} (q : tar σ H fun vs H1 => rr vs H1 Q) : tCB rr tar σ H Q := q
theorem s_nil {Q : List V → Hp → Prop} (q : Q [] H) : tNil σ H Q := q
theorem s_cons {Q : List V → Hp → Prop} (q : te σ H fun x H1 => tar σ H1 fun xs H2 => Q (x :: xs) H2) : tCons te tar σ H Q := q
theorem s_consts {vs : List V} {Q : List V → Hp → Prop} (q : Q vs H) : tConsts vs σ H Q := q
theorem s_call (q : tar σ H fun vs H1 => sp (vs ++ dvs) H1 Q E) : tCall sp dvs E tar σ H Q := q
def NewL (xs : List V) (H1 : Hp) (Q : VK) : Prop := xs.length ≤ sizeLine ∧ ∀ p, H1 p = none → Q (.ref p) (upd H1 p (.lst xs))
def NewT (xs : List V) (H1 : Hp) (Q : VK) : Prop := xs.length ≤ sizeLine ∧ ∀ p, H1 p = none → Q (.ref p) (upd H1 p (.tup xs))
theorem s_lst (q : tar σ H fun xs H1 => NewL xs H1 Q) : tLst tar σ H Q := q
theorem s_tup (q : tar σ H fun xs H1 => NewT xs H1 Q) : tTup tar σ H Q := q
theorem same0 {H : Hp} {p : Addr} {o : HO} (n : H p = none) : L2.Same H (upd H p o) := fun b u z => by
  rw [upd_ne (ne_of_none z n)]
  exact z
theorem l_newL {xs : List V} (h : xs.length ≤ sizeLine) (k : ∀ p G, H p = none → L2.Same H G → G p = some (.lst xs) → Q (.ref p) G) : NewL xs H Q := ⟨h, fun p n => k p _ n (same0 n) upd_same⟩
theorem l_newT {xs : List V} (h : xs.length ≤ sizeLine) (k : ∀ p G, H p = none → L2.Same H G → G p = some (.tup xs) → Q (.ref p) G) : NewT xs H Q := ⟨h, fun p n => k p _ n (same0 n) upd_same⟩
theorem s_seq (q : s1 { D with nx := s2 D } σ H) : tSeq s1 s2 D σ H := q
theorem s_asg (q : te σ H fun x H1 => g x σ H1 D.nx) : tAsg te g D σ H := q
theorem s_name {i : Nat} {Q : L2.St → Hp → Prop} (q : Q (σ.set i (some v)) H) : gName i v σ H Q := q
theorem s_ret (q : te σ H D.rt) : tRet te D σ H := q
theorem s_next (q : D.nx σ H) : tNext D σ H := q
theorem s_drop (q : te σ H fun _ H1 => D.nx σ H1) : tDrop te D σ H := q
theorem s_if (q : t σ H fun b H1 => if b = true then s1 D σ H1 else s2 D σ H1) : tIfS t s1 s2 D σ H := q
theorem s_ifE (q : t σ H fun b H1 => if b = true then ta σ H1 Q else tb σ H1 Q) : tIf t ta tb σ H Q := q
theorem s_tb {Q : Bool → Hp → Prop} (q : te σ H fun x H1 => ∃ k, x = .bl k ∧ Q k H1) : tB te σ H Q := q
theorem s_test {Q : Bool → Hp → Prop} (q : te σ H fun x H1 => ∃ k, x = .bl k ∧ Q k H1) : tTest te σ H Q := q
theorem s_yes {Q : Bool → Hp → Prop} (q : Q true H) : tYes σ H Q := q
theorem s_not {Q : Bool → Hp → Prop} (q : t σ H fun b H1 => Q (!b) H1) : tNot t σ H Q := q
theorem s_and {Q : Bool → Hp → Prop} (q : t σ H fun b H1 => if b = true then u σ H1 Q else Q false H1) : tAnd t u σ H Q := q
theorem s_or {Q : Bool → Hp → Prop} (q : t σ H fun b H1 => if b = true then Q true H1 else u σ H1 Q) : tOr t u σ H Q := q
theorem s_andV (q : ta σ H fun x H1 => ∃ k, x = .bl k ∧ if k = true then tb σ H1 Q else Q (.bl false) H1) : tAndV ta tb σ H Q := q
theorem s_orV (q : ta σ H fun x H1 => ∃ k, x = .bl k ∧ if k = true then Q (.bl true) H1 else tb σ H1 Q) : tOrV ta tb σ H Q := q
theorem s_notV (q : ta σ H fun x H1 => ∃ k, x = .bl k ∧ Q (.bl (!k)) H1) : tNotV ta σ H Q := q
theorem s_chain (q : ta σ H fun x H1 => tb σ H1 fun y H2 => r x y H2 fun z H3 => ∃ k, z = .bl k ∧ (if k = true then tc σ H3 fun w H4 => r' y w H4 Q else Q (.bl false) H3)) : tChain r r' ta tb tc σ H Q := q
-- leaves
theorem l_bl {b : Bool} {P : Bool → Prop} (q : P b) : ∃ k, V.bl b = V.bl k ∧ P k := ⟨b, rfl, q⟩
theorem l_I0 {f : Int → Int → V} {i j : Int} (q : Q (f i j) H) : rI0 f (.int i) (.int j) H Q := ⟨i, j, rfl, rfl, q⟩
theorem l_I {C : Int → Int → Prop} {f : Int → Int → V} {i j : Int} (c : C i j) (q : Q (f i j) H) : rI C f (.int i) (.int j) H Q := ⟨i, j, rfl, rfl, c, q⟩
theorem l_U {f : Int → V} {i : Int} (q : Q (f i) H) : rU f (.int i) H Q := ⟨i, rfl, q⟩
theorem l_eq (c : scal x y = true) (q : Q (.bl (decide (x = y))) H) : rEq x y H Q := ⟨c, q⟩
theorem l_ne (c : scal x y = true) (q : Q (.bl (!decide (x = y))) H) : rNe x y H Q := ⟨c, q⟩
-- ifs
theorem i_dec {c A B : Prop} [Decidable c] (h1 : c → A) (h2 : ¬ c → B) : if decide c = true then A else B := by
  by_cases h : c
  · rw [if_pos (decide_eq_true h)]
    exact h1 h
  · rw [if_neg (by rw [decide_eq_false h]; exact Bool.false_ne_true)]
    exact h2 h
theorem i_b {b : Bool} {A B : Prop} (h1 : b = true → A) (h2 : b = false → B) : if b = true then A else B := by
  cases b with
  | true => exact h1 rfl
  | false => exact h2 rfl
theorem i_t {b : Bool} {A B : Prop} (e : b = true) (h : A) : if b = true then A else B := by
  subst e
  exact h
theorem i_f {b : Bool} {A B : Prop} (e : b = false) (h : B) : if b = true then A else B := by
  subst e
  exact h

theorem l_int1 {i : Int} (q : Q (.int i) H) : rInt [.int i] H Q := Or.inl ⟨i, rfl, q⟩
theorem l_int1b {b : Bool} (q : Q (.int (if b then 1 else 0)) H) : rInt [.bl b] H Q := Or.inr ⟨b, rfl, q⟩
theorem l_abs {i : Int} (q : Q (.int (if i < 0 then -i else i)) H) : rAbs [.int i] H Q := ⟨i, rfl, q⟩
theorem l_max2 {i j : Int} (q : Q (.int (if j > i then j else i)) H) : rMax2 [.int i, .int j] H Q := ⟨i, j, rfl, q⟩
theorem l_min2 {i j : Int} (q : Q (.int (if j < i then j else i)) H) : rMin2 [.int i, .int j] H Q := ⟨i, j, rfl, q⟩
theorem l_lenL {p : Addr} {xs : List V} (h : SqL K H p xs) (q : Q (.int (xs.length : Nat)) H) : rLen K [.ref p] H Q := ⟨_, _, rfl, Or.inl ⟨xs, h, rfl⟩, q⟩
theorem l_lenT {p : Addr} {xs : List V} (h : SqT K H p xs) (q : Q (.int (xs.length : Nat)) H) : rLen K [.ref p] H Q := ⟨_, _, rfl, Or.inr ⟨xs, h, rfl⟩, q⟩
theorem l_lenS {y : Str} (h : y.length ≤ sizeLine) (q : Q (.int (y.length : Nat)) H) : rLen K [.str y] H Q := ⟨_, _, rfl, ⟨h, rfl⟩, q⟩
theorem l_addS {y z : Str} (h : y.length + z.length ≤ sizeLine) (q : Q (.str (y ++ z)) H) : rAddStr (.str y) (.str z) H Q := ⟨y, z, rfl, rfl, h, q⟩
theorem l_leS {y z : Str} (q : Q (.bl (!decide (z.cps.toList < y.cps.toList))) H) : rLeStr (.str y) (.str z) H Q := ⟨y, z, rfl, rfl, q⟩
theorem l_listL {p : Addr} {xs : List V} (h : SqL K H p xs) (q : ∀ l G, H l = none → L2.Same H G → G l = some (.lst xs) → Q (.ref l) G) : rListOf K [.ref p] H Q := ⟨p, xs, rfl, Or.inl h, fun l n => q l _ n (same0 n) upd_same⟩
theorem l_listT {p : Addr} {xs : List V} (h : SqT K H p xs) (q : ∀ l G, H l = none → L2.Same H G → G l = some (.lst xs) → Q (.ref l) G) : rListOf K [.ref p] H Q := ⟨p, xs, rfl, Or.inr h, fun l n => q l _ n (same0 n) upd_same⟩
theorem l_ixL {p : Addr} {xs : List V} {i : Int} (h : SqL K H p xs) (a : atI xs i = some v) (q : Q v H) : rIxL K (.ref p) (.int i) H Q := ⟨p, xs, i, v, rfl, rfl, h, a, q⟩
theorem at_in {xs : List V} {i : Int} (h0 : 0 ≤ i) (h1 : i < (xs.length : Int)) : ∃ x, x ∈ xs ∧ xs[i.toNat]? = some x ∧ atI xs i = some x := by
  have hl : i.toNat < xs.length := by omega
  refine ⟨xs[i.toNat], List.getElem_mem hl, List.getElem?_eq_getElem hl, ?_⟩
  have e : atI xs ((i.toNat : Nat) : Int) = some xs[i.toNat] := atI_nat (List.getElem?_eq_getElem hl)
  rwa [Int.toNat_of_nonneg h0] at e

/-! ### heaps: what is kept -/
/-- all but the object at d is kept -/
def Keep (d : Addr) (H G : Hp) : Prop := ∀ b o, b ≠ d → H b = some o → G b = some o
theorem Keep.refl {d : Addr} (H : Hp) : Keep d H H := fun _ _ _ z => z
theorem Keep.trans {d : Addr} {H G J : Hp} (a : Keep d H G) (b : Keep d G J) : Keep d H J := fun x o n z => b x o n (a x o n z)
theorem Keep.of {d : Addr} {H G : Hp} (a : Same H G) : Keep d H G := fun b o _ z => a b o z
theorem Keep.new {d p : Addr} {H G : Hp} {o : HO} (a : Keep d H G) (n : G p = none) : Keep d H (upd G p o) := fun b u nd z => by
  have k := a b u nd z
  rw [upd_ne (ne_of_none k n)]
  exact k
theorem Keep.set {d : Addr} {H G : Hp} {o : HO} (a : Keep d H G) : Keep d H (upd G d o) := fun b u nd z => by
  rw [upd_ne nd]
  exact a b u nd z
theorem Same.new {H G : Hp} {p : Addr} {o : HO} (a : Same H G) (n : G p = none) : Same H (upd G p o) := fun b u z => by
  have k := a b u z
  rw [upd_ne (ne_of_none k n)]
  exact k
theorem Same.upd0 {H : Hp} {p : Addr} {o : HO} (n : H p = none) : Same H (upd H p o) := Same.new (Same.refl H) n
/-- an object unknown to H may be set -/
theorem Same.setNew {H G : Hp} {p : Addr} {o : HO} (a : Same H G) (n : H p = none) : Same H (upd G p o) := fun b u z => by
  rw [upd_ne (ne_of_none z n)]
  exact a b u z
theorem rd_keep {d a : Addr} {H G : Hp} {u : HO} (k : Keep d H G) (n : a ≠ d) (h : Rd H a u) : Rd G a u := by
  rcases h with h | ⟨o, h⟩
  · exact Or.inl (k _ _ n h)
  · exact Or.inr ⟨o, k _ _ n h⟩
theorem sql_keep {d a : Addr} {H G : Hp} {xs : List V} (k : Keep d H G) (n : a ≠ d) (h : SqL K H a xs) : SqL K G a xs := by
  rcases h with h | h
  · exact Or.inl (rd_keep k n h)
  · exact Or.inr h
theorem sqt_keep {d a : Addr} {H G : Hp} {xs : List V} (k : Keep d H G) (n : a ≠ d) (h : SqT K H a xs) : SqT K G a xs := by
  rcases h with h | h
  · exact Or.inl (rd_keep k n h)
  · exact Or.inr h
theorem sqt_same {a : Addr} {H G : Hp} {xs : List V} (k : Same H G) (h : SqT K H a xs) : SqT K G a xs := by
  rcases h with (h | ⟨o, h⟩) | h
  · exact Or.inl (Or.inl (k _ _ h))
  · exact Or.inl (Or.inr ⟨o, k _ _ h⟩)
  · exact Or.inr h
/-! ### dice: three ints in a list -/
def DiceAt (H : Hp) (d : Addr) : Prop := ∃ a b c : Int, H d = some (.lst [.int a, .int b, .int c])
/-- since H the dice at d have been rolled, new things have been made -/
structure Dc (d : Addr) (H G : Hp) : Prop where
  keep : Keep d H G
  dice : DiceAt G d
theorem Dc.refl {d : Addr} {H : Hp} (h : DiceAt H d) : Dc d H H := ⟨Keep.refl H, h⟩
theorem Dc.trans {d : Addr} {H G J : Hp} (a : Dc d H G) (b : Dc d G J) : Dc d H J := ⟨a.keep.trans b.keep, b.dice⟩
theorem DiceAt.ne {d p : Addr} {H : Hp} (h : DiceAt H d) (n : H p = none) : d ≠ p := by
  obtain ⟨_, _, _, e⟩ := h
  exact ne_of_none e n
theorem DiceAt.same {d : Addr} {H G : Hp} (h : DiceAt H d) (s : Same H G) : DiceAt G d := by
  obtain ⟨a, b, c, e⟩ := h
  exact ⟨a, b, c, s _ _ e⟩
theorem Dc.new {d p : Addr} {H G : Hp} {o : HO} (a : Dc d H G) (n : G p = none) : Dc d H (upd G p o) := by
  refine ⟨a.keep.new n, ?_⟩
  obtain ⟨x, y, z, e⟩ := a.dice
  exact ⟨x, y, z, by rw [upd_ne (ne_of_none e n)]; exact e⟩
theorem Dc.same {d : Addr} {H G J : Hp} (a : Dc d H G) (s : Same G J) : Dc d H J := ⟨a.keep.trans (Keep.of s), a.dice.same s⟩
end

section
variable {K : PySem.W.Frag} {σ : L2.St} {H : Hp} {ta tb tc te tl : TE} {t u : TT} {tar : TA} {x y z v : V} {r r' : R2} {Q : VK} {D : Ends} {s1 s2 tbd : TS} {g : TG} {j : Nat} {vs : List Nat}
theorem s_sub {ti : TE} {st : TSet} {Q : L2.St → Hp → Prop} (q : ta σ H fun o H1 => ti σ H1 fun i H2 => st o i v H2 fun H3 => Q σ H3) : gSub ta ti st v σ H Q := q
theorem s_gnil {Q : L2.St → Hp → Prop} (q : Q σ H) : gNil [] σ H Q := ⟨rfl, q⟩
theorem s_gcons {us : TGs} {w : V} {ws : List V} {Q : L2.St → Hp → Prop} (q : g w σ H fun τ G => us ws τ G Q) : gCons g us (w :: ws) σ H Q := ⟨w, ws, rfl, q⟩
theorem l_gtup {n : Nat} {us : TGs} {p : Addr} {xs : List V} {Q : L2.St → Hp → Prop} (h : SqT K H p xs) (e : xs.length = n) (q : us xs σ H Q) : gTup K n us (.ref p) σ H Q := ⟨p, xs, rfl, h, e, q⟩
theorem s_slice {rr : V → Option Int → Option Int → Hp → VK → Prop} {lo hi : TO} (q : te σ H fun x H1 => lo σ H1 fun l H2 => hi σ H2 fun w H3 => rr x l w H3 Q) : tSl rr te lo hi σ H Q := q
theorem s_nopart {Q : Option Int → Hp → Prop} (q : Q none H) : tNoPart σ H Q := q
def rPart (Q : Option Int → Hp → Prop) : V → Hp → Prop := fun x H1 => ∃ i, x = .int i ∧ Q (some i) H1
theorem s_part {Q : Option Int → Hp → Prop} (q : te σ H fun x H1 => rPart Q x H1) : tPart te σ H Q := q
theorem l_part {i : Int} {Q : Option Int → Hp → Prop} (q : Q (some i) H) : rPart Q (.int i) H := ⟨i, rfl, q⟩
theorem l_slS {y : Str} {lo hi : Option Int} (h : y.length ≤ sizeLine) (q : Q (.str (cutS y lo hi)) H) : rSlS (.str y) lo hi H Q := ⟨y, rfl, h, q⟩
theorem l_ixS {y : Str} {i : Int} {c : Nat} (h : y.length ≤ sizeLine) (e : atI y.cps.toList i = some c) (q : Q (.str ⟨#[c]⟩) H) : rIxS (.str y) (.int i) H Q := ⟨y, i, c, rfl, rfl, h, e, q⟩
theorem l_inS {c : Nat} {y : Str} (q : Q (.bl (decide (c ∈ y.cps.toList))) H) : rInS (.str ⟨#[c]⟩) (.str y) H Q := ⟨c, y, rfl, rfl, q⟩
theorem l_ninS {c : Nat} {y : Str} (q : Q (.bl (!decide (c ∈ y.cps.toList))) H) : rNinS (.str ⟨#[c]⟩) (.str y) H Q := ⟨c, y, rfl, rfl, q⟩
theorem l_all {p : Addr} {bs : List Bool} (h : SqL K H p (bs.map V.bl)) (q : Q (.bl (bs.all id)) H) : rAll K [.ref p] H Q := ⟨p, bs, rfl, h, q⟩
theorem l_eqD {d e : PyData} (hd : Dp K H x d) (he : Dp K H y e) (s1 : SeqAt.shaped d = true) (s2 : SeqAt.shaped e = true) (q : Q (.bl (PyData.eqv d e)) H) : rEqD K x y H Q := ⟨d, e, hd, he, s1, s2, q⟩
theorem l_neD {d e : PyData} (hd : Dp K H x d) (he : Dp K H y e) (s1 : SeqAt.shaped d = true) (s2 : SeqAt.shaped e = true) (q : Q (.bl (!PyData.eqv d e)) H) : rNeD K x y H Q := ⟨d, e, hd, he, s1, s2, q⟩
theorem l_repr {p : Addr} {d : PyData} (hd : Dp K H (.ref p) d) (h1 : d.showable = true) (h2 : d.hasDict = false) (h3 : d.depth ≤ 60) (h4 : d.shown.length ≤ sizeLine) (q : Q (.str d.shown) H) : rRepr K [.ref p] H Q := ⟨p, d, rfl, hd, h1, h2, h3, h4, q⟩
theorem l_cat {p q : Addr} {xs ys : List V} (hp : H p = some (.lst xs)) (hq : H q = some (.lst ys)) (sz : xs.length + ys.length ≤ sizeLine) (k : ∀ l G, H l = none → Same H G → G l = some (.lst (xs ++ ys)) → Q (.ref l) G) : rCat (.ref p) (.ref q) H Q := ⟨p, q, xs, ys, rfl, rfl, hp, hq, sz, fun l n => k l _ n (same0 n) upd_same⟩
theorem l_rep {p : Addr} {i : Int} {xs : List V} (hp : H p = some (.lst xs)) (h1 : -(2 ^ 63) ≤ i) (h2 : i < 2 ^ 63) (sz : xs.length * i.toNat ≤ sizeLine) (k : ∀ l G, H l = none → Same H G → G l = some (.lst (List.replicate i.toNat xs).flatten) → Q (.ref l) G) : rRep (.ref p) (.int i) H Q := ⟨p, i, xs, rfl, rfl, hp, h1, h2, sz, fun l n => k l _ n (same0 n) upd_same⟩
theorem l_times {y : Str} {n : Nat} (h2 : 2 ≤ n) (h1 : 1 ≤ y.length) (hz : y.length * n ≤ 1000000) (q : Q (.str ⟨(List.replicate n y.cps).foldl (· ++ ·) #[]⟩) H) : rTimes (.str y) (.int (n : Int)) H Q := ⟨y, n, rfl, rfl, h2, h1, hz, q⟩

def RPar (i j : Nat) (D : Ends) (σ : L2.St) (vs : List V) (H1 : Hp) : Prop := ∃ v w, vs = [v, w] ∧ D.nx ((σ.set i (some v)).set j (some w)) H1
theorem s_par {i j : Nat} (q : tar σ H fun vs H1 => RPar i j D σ vs H1) : tPar i j tar D σ H := q
theorem l_par {i j : Nat} {v w : V} (q : D.nx ((σ.set i (some v)).set j (some w)) H) : RPar i j D σ [v, w] H := ⟨v, w, rfl, q⟩
def RPar3 (i j l : Nat) (D : Ends) (σ : L2.St) (vs : List V) (H1 : Hp) : Prop := ∃ u v w, vs = [u, v, w] ∧ D.nx (((σ.set i (some u)).set j (some v)).set l (some w)) H1
theorem s_par3 {i j l : Nat} (q : tar σ H fun vs H1 => RPar3 i j l D σ vs H1) : tPar3 i j l tar D σ H := q
theorem l_par3 {i j l : Nat} {u v w : V} (q : D.nx (((σ.set i (some u)).set j (some v)).set l (some w)) H) : RPar3 i j l D σ [u, v, w] H := ⟨u, v, w, rfl, q⟩
/-- a join: M holds behind the first part, the second part is read from M on -/
theorem s_cut (M : L2.St → Hp → Prop) (q : s1 { D with nx := M } σ H) (k : ∀ τ G, M τ G → s2 D τ G) : Evl.tCut s1 s2 D σ H := ⟨M, q, k⟩
/-! ### walks -/
def WFor (J : It) (g : TG) (tb : TS) (D : Ends) (σ : L2.St) (H1 : Hp) : Prop := ∃ W : Nat → Nat → L2.St → Hp → Prop, (∃ m, W 0 m σ H1) ∧ ∀ i m σ H, W i m σ H →
  (J.stop i H ∧ D.nx σ H) ∨ (J.go i H ∧ ∃ N : L2.St → Hp → Prop, (∀ σ' H', N σ' H' → ∃ m', m' < m ∧ W (i + 1) m' σ' H') ∧ ∀ x H', J.yld i H x H' → g x σ H' fun σ2 H2 => tb { D with nx := N, ct := N, bk := D.nx } σ2 H2)
def RFor (g : TG) (tb : TS) (D : Ends) (σ : L2.St) (us : List V) (H1 : Hp) : Prop := ∃ n : Int, us = [.int n] ∧ -(2 ^ 62) ≤ n ∧ n < 2 ^ 62 ∧ WFor (Itr 0 n.toNat) g tb D σ H1
theorem s_forR (q : tar σ H fun us H1 => RFor g tbd D σ us H1) : tFor (iRng1 tar) g tbd D σ H := q
theorem l_forR {n : Int} (h0 : -(2 ^ 62) ≤ n) (h1 : n < 2 ^ 62) (Pv : Nat → L2.St → Hp → Prop) (a : Pv 0 σ H) (turn : ∀ (i : Nat) σ H, (i : Int) < n → Pv i σ H → g (.int (i : Int)) σ H fun σ2 H2 => tbd { D with nx := Pv (i + 1), ct := Pv (i + 1), bk := D.nx } σ2 H2)
    (done : ∀ σ H, Pv n.toNat σ H → D.nx σ H) : RFor g tbd D σ [.int n] H :=
  ⟨n, rfl, h0, h1, for_range (lo := 0) Pv a (fun i σ H hi p => by
    have e : (0 : Int) + (i : Int) = (i : Int) := Int.zero_add _
    rw [e]
    exact turn i σ H (by omega) p) done⟩
def TFor (K : PySem.W.Frag) (g : TG) (tb : TS) (D : Ends) (σ : L2.St) (x : V) (H1 : Hp) : Prop := ∃ a, x = .ref a ∧ (∃ xs, SqT K H1 a xs) ∧ WFor (Itt K a) g tb D σ H1
theorem s_forT (q : tl σ H fun x H1 => TFor K g tbd D σ x H1) : tFor (iTup K tl) g tbd D σ H := q
theorem l_forT {p : Addr} {xs : List V} (h : SqT K H p xs) (Pv : Nat → L2.St → Hp → Prop) (a : Pv 0 σ H) (stay : ∀ i σ H, i ≤ xs.length → Pv i σ H → SqT K H p xs)
    (turn : ∀ (i : Nat) x σ H, xs[i]? = some x → Pv i σ H → g x σ H fun σ2 H2 => tbd { D with nx := Pv (i + 1), ct := Pv (i + 1), bk := D.nx } σ2 H2) (done : ∀ σ H, Pv xs.length σ H → D.nx σ H) : TFor K g tbd D σ (.ref p) H :=
  ⟨p, rfl, ⟨xs, h⟩, for_tup Pv a stay turn done⟩

/-! ### comprehensions whose parts leave what is there -/
def WLc (J : It) (g : TG) (tt : TT) (te : TE) (vs : List Nat) (σ : L2.St) (Q : VK) (H1 : Hp) : Prop := ∀ D, H1 D = none → ∃ W : Nat → Nat → Hp → Prop, (∃ m, W 0 m (upd H1 D (.lst []))) ∧ ∀ i m H, W i m H →
  (J.stop i H ∧ Q (.ref D) H) ∨ (J.go i H ∧ ∃ Nx : Hp → Prop, (∀ H', Nx H' → ∃ m', m' < m ∧ W (i + 1) m' H') ∧ ∀ x H', J.yld i H x H' → g x (wipe σ vs) H' fun σ2 H2 => wipe σ2 vs = wipe σ vs ∧ tt σ2 H2 fun b H3 =>
    if b = true then te σ2 H3 fun y H4 => ∃ acc, H4 D = some (.lst acc) ∧ acc.length < sizeLine ∧ Nx (upd H4 D (.lst (acc ++ [y]))) else Nx H3)
theorem take_succ_of {xs : List V} {i : Nat} {x : V} (h : xs[i]? = some x) : xs.take (i + 1) = xs.take i ++ [x] := by
  rw [List.take_add_one, h]
  rfl
/-- a test, an expression evaluates to this, leaving what is there -/
def ToB (t : TT) (τ : L2.St) (G : Hp) (b : Bool) : Prop := ∀ R : Bool → Hp → Prop, (∀ G', Same G G' → R b G') → t τ G R
def ToV (t : TE) (τ : L2.St) (G : Hp) (v : V) : Prop := ∀ R : VK, (∀ G', Same G G' → R v G') → t τ G R
theorem wlc_of {J : It} {xs : List V} {Gd : Hp → Prop} (w : Walk J xs.length Gd (YAt xs)) (stay : ∀ G, Same H G → Gd G) (keep : V → Bool) (f : V → V) (short : xs.length ≤ 100000)
    (test : ∀ x ∈ xs, ∀ G, Same H G → ToB t ((wipe σ [j]).set j (some x)) G (keep x)) (val : ∀ x ∈ xs, keep x = true → ∀ G, Same H G → ToV te ((wipe σ [j]).set j (some x)) G (f x))
    (fin : ∀ D G, H D = none → Same H G → G D = some (.lst ((xs.filter keep).map f)) → Q (.ref D) G) : WLc J (gName j) t te [j] σ Q H := by
  intro D hD
  refine lc_it w (fun i G => Same H G ∧ G D = some (.lst (((xs.take i).filter keep).map f))) ⟨Same.upd0 hD, upd_same⟩ (fun i G _ p => stay G p.1) ?_ (fun G p => ?_)
  · intro i x G G' hi p y
    obtain ⟨rfl, hx⟩ := y
    have mem : x ∈ xs := List.mem_of_getElem? hx
    have tk := take_succ_of hx
    refine s_name ⟨?_, ?_⟩
    · show (((σ.set j none).set j (some x)).set j none) = σ.set j none
      rw [List.set_set, List.set_set]
    refine test x mem _ p.1 _ fun G1 e1 => ?_
    cases hk : keep x with
    | false =>
      refine i_f rfl ⟨p.1.trans e1, ?_⟩
      rw [tk, List.filter_append, List.filter_cons, if_neg (by rw [hk]; exact Bool.false_ne_true), List.filter_nil, List.append_nil]
      exact e1 _ _ p.2
    | true =>
      refine i_t rfl ?_
      refine val x mem hk _ (p.1.trans e1) _ fun G2 e2 => ?_
      refine ⟨_, e2 _ _ (e1 _ _ p.2), ?_, Same.setNew ((p.1.trans e1).trans e2) hD, ?_⟩
      · have h1 : ((xs.take i).filter keep).length ≤ (xs.take i).length := List.length_filter_le _ _
        have h2 : (xs.take i).length ≤ xs.length := by rw [List.length_take]; omega
        rw [List.length_map, sizeLine_eq]
        omega
      · rw [upd_same, tk, List.filter_append, List.filter_cons, if_pos hk, List.filter_nil, List.map_append]
        rfl
  · rw [List.take_length] at p
    exact fin D G hD p.1 p.2
def TxtLc (g : TG) (tt : TT) (te : TE) (vs : List Nat) (σ : L2.St) (Q : VK) (v : V) (H1 : Hp) : Prop := ∃ z, v = .str z ∧ WLc (Its z) g tt te vs σ Q H1
theorem s_lcS (q : tl σ H fun v H1 => TxtLc g t te vs σ Q v H1) : tLc (iStr tl) g t te vs σ H Q := q
def signV (c : Nat) : V := .str ⟨#[c]⟩
theorem walk_signs {z : Str} : Walk (Its z) (z.cps.toList.map signV).length (fun _ => True) (YAt (z.cps.toList.map signV)) := by
  have e : (z.cps.toList.map signV).length = z.cps.size := by rw [List.length_map, Array.length_toList]
  rw [e]
  refine walk_str.mono (fun _ _ => trivial) fun i H x H' hi _ y => ?_
  obtain ⟨rfl, c, hc, rfl⟩ := y
  refine ⟨rfl, ?_⟩
  rw [List.getElem?_map, Array.getElem?_toList, hc]
  rfl
theorem l_lcS {y : Str} (keep : V → Bool) (f : V → V) (short : y.length ≤ 100000) (test : ∀ c ∈ y.cps.toList, ∀ G, Same H G → ToB t ((wipe σ [j]).set j (some (signV c))) G (keep (signV c)))
    (val : ∀ c ∈ y.cps.toList, keep (signV c) = true → ∀ G, Same H G → ToV te ((wipe σ [j]).set j (some (signV c))) G (f (signV c)))
    (fin : ∀ D G, H D = none → Same H G → G D = some (.lst (((y.cps.toList.map signV).filter keep).map f)) → Q (.ref D) G) : TxtLc (gName j) t te [j] σ Q (.str y) H := by
  refine ⟨y, rfl, wlc_of walk_signs (fun _ _ => trivial) keep f ?_ ?_ ?_ fin⟩
  · rw [List.length_map, Array.length_toList]
    exact short
  · intro x hx
    obtain ⟨c, hc, rfl⟩ := List.mem_map.mp hx
    exact test c hc
  · intro x hx
    obtain ⟨c, hc, rfl⟩ := List.mem_map.mp hx
    exact val c hc
def LstLc (K : PySem.W.Frag) (g : TG) (tt : TT) (te : TE) (vs : List Nat) (σ : L2.St) (Q : VK) (x : V) (H1 : Hp) : Prop := ∃ a, x = .ref a ∧ (∃ xs, SqL K H1 a xs) ∧ WLc (Itl K a) g tt te vs σ Q H1
theorem s_lcL (q : tl σ H fun v H1 => LstLc K g t te vs σ Q v H1) : tLc (iList K tl) g t te vs σ H Q := q
theorem l_lcL {p : Addr} {xs : List V} (h : SqL K H p xs) (keep : V → Bool) (f : V → V) (short : xs.length ≤ 100000) (test : ∀ x ∈ xs, ∀ G, Same H G → ToB t ((wipe σ [j]).set j (some x)) G (keep x))
    (val : ∀ x ∈ xs, keep x = true → ∀ G, Same H G → ToV te ((wipe σ [j]).set j (some x)) G (f x)) (fin : ∀ D G, H D = none → Same H G → G D = some (.lst ((xs.filter keep).map f)) → Q (.ref D) G) : LstLc K (gName j) t te [j] σ Q (.ref p) H :=
  ⟨p, rfl, ⟨xs, h⟩, wlc_of walk_list (fun _ s => s.seq h) keep f short test val fin⟩
def TupLc (K : PySem.W.Frag) (g : TG) (tt : TT) (te : TE) (vs : List Nat) (σ : L2.St) (Q : VK) (x : V) (H1 : Hp) : Prop := ∃ a, x = .ref a ∧ (∃ xs, SqT K H1 a xs) ∧ WLc (Itt K a) g tt te vs σ Q H1
theorem s_lcT (q : tl σ H fun v H1 => TupLc K g t te vs σ Q v H1) : tLc (iTup K tl) g t te vs σ H Q := q
theorem l_lcT {p : Addr} {xs : List V} (h : SqT K H p xs) (keep : V → Bool) (f : V → V) (short : xs.length ≤ 100000) (test : ∀ x ∈ xs, ∀ G, Same H G → ToB t ((wipe σ [j]).set j (some x)) G (keep x))
    (val : ∀ x ∈ xs, keep x = true → ∀ G, Same H G → ToV te ((wipe σ [j]).set j (some x)) G (f x)) (fin : ∀ D G, H D = none → Same H G → G D = some (.lst ((xs.filter keep).map f)) → Q (.ref D) G) : TupLc K (gName j) t te [j] σ Q (.ref p) H :=
  ⟨p, rfl, ⟨xs, h⟩, wlc_of walk_tup (fun _ s => sqt_same s h) keep f short test val fin⟩
end

/-! ### rows of data of which each item has a property -/
section
variable {K : PySem.W.Frag} {σ : L2.St} {H : Hp} {te : TE} {tar : TA} {x y z v : V} {Q : VK} {Pr : Hp → V → Prop}
theorem l_new {o : HO} (k : ∀ p G, H p = none → Same H G → G p = some o → Q (.ref p) G) : ∀ p, H p = none → Q (.ref p) (upd H p o) := fun p n => k p _ n (Same.upd0 n) upd_same
/-- from H0 on: an expression gives a value with Pr, a row n such values -/
def ToP (H0 : Hp) (Pr : Hp → V → Prop) (te : TE) (σ : L2.St) : Prop := ∀ H, Same H0 H → ∀ Q : VK, (∀ v G, Same H G → Pr G v → Q v G) → te σ H Q
def AllA (H0 : Hp) (Pr : Hp → V → Prop) (n : Nat) (tar : TA) (σ : L2.St) : Prop := ∀ H, Same H0 H → ∀ Q : List V → Hp → Prop, (∀ vs G, Same H G → vs.length = n → (∀ v ∈ vs, Pr G v) → Q vs G) → tar σ H Q
variable {H0 : Hp}
theorem use_all {n : Nat} {Q : List V → Hp → Prop} (s : Same H0 H) (a : AllA H0 Pr n tar σ) (k : ∀ vs G, Same H G → vs.length = n → (∀ v ∈ vs, Pr G v) → Q vs G) : tar σ H Q := a H s Q k
theorem allA_nil : AllA H0 Pr 0 tNil σ := fun H _ Q k => k [] H (Same.refl H) rfl fun _ h => nomatch h
theorem allA_cons {n : Nat} (mono : ∀ G G' v, Same G G' → Pr G v → Pr G' v) (h1 : ToP H0 Pr te σ) (h2 : AllA H0 Pr n tar σ) : AllA H0 Pr (n + 1) (tCons te tar) σ := fun H s0 Q k =>
  h1 H s0 _ fun v G s p => h2 G (s0.trans s) _ fun vs G' s' len all => k (v :: vs) G' (s.trans s') (by rw [List.length_cons, len]) fun u hu => by
    rcases List.mem_cons.mp hu with e | hu
    · subst e
      exact mono G G' _ s' p
    · exact all u hu
theorem toP_c (p : ∀ G, Pr G v) : ToP H0 Pr (tC v) σ := fun H _ _ k => k v H (Same.refl H) (p H)
end

/-! ### kinds of values: texts, and what is none -/
def NotStr (K : PySem.W.Frag) (H : Hp) (x : V) : Prop := ∃ t, TyX K H x t ∧ PySem.W.kitOne K t (.type "str") = some false
theorem NotStr.non {K : PySem.W.Frag} {H : Hp} : NotStr K H .non := ⟨_, .base .non, kit_ty (by decide +kernel)⟩
theorem NotStr.bl {K : PySem.W.Frag} {H : Hp} {b : Bool} : NotStr K H (.bl b) := ⟨_, .base (.bl b), kit_ty (by decide +kernel)⟩
theorem NotStr.int {K : PySem.W.Frag} {H : Hp} {i : Int} : NotStr K H (.int i) := ⟨_, .base (.int i), kit_ty (by decide +kernel)⟩
/-- a value of the kinds that are drawn: a short text of plain signs; or none, and then not at d -/
def Txt1 (s : Str) : Prop := s.length ≤ 400 ∧ ∀ c ∈ s.cps.toList, c < 128
def ListAt (H : Hp) (a : Addr) : Prop := (∃ xs, H a = some (.lst xs)) ∨ (∃ xs, H a = some (.tup xs)) ∨ ∃ kvs, H a = some (.dK kvs)
def OddV (x : V) (H : Hp) : Prop := (∃ s, x = .str s ∧ Txt1 s) ∨ x = .non ∨ (∃ b, x = .bl b) ∨ (∃ i, x = .int i) ∨ ∃ a, x = .ref a ∧ ListAt H a
theorem ListAt.same {H G : Hp} {a : Addr} (s : Same H G) (h : ListAt H a) : ListAt G a := by
  rcases h with ⟨xs, e⟩ | ⟨xs, e⟩ | ⟨xs, e⟩
  · exact Or.inl ⟨xs, s _ _ e⟩
  · exact Or.inr (Or.inl ⟨xs, s _ _ e⟩)
  · exact Or.inr (Or.inr ⟨xs, s _ _ e⟩)
theorem ListAt.keep {H G : Hp} {a d : Addr} (s : Keep d H G) (n : a ≠ d) (h : ListAt H a) : ListAt G a := by
  rcases h with ⟨xs, e⟩ | ⟨xs, e⟩ | ⟨xs, e⟩
  · exact Or.inl ⟨xs, s _ _ n e⟩
  · exact Or.inr (Or.inl ⟨xs, s _ _ n e⟩)
  · exact Or.inr (Or.inr ⟨xs, s _ _ n e⟩)
theorem OddV.same {H G : Hp} {x : V} (s : Same H G) (h : OddV x H) : OddV x G := by
  rcases h with h | h | h | h | ⟨a, e, h⟩
  · exact Or.inl h
  · exact Or.inr (Or.inl h)
  · exact Or.inr (Or.inr (Or.inl h))
  · exact Or.inr (Or.inr (Or.inr (Or.inl h)))
  · exact Or.inr (Or.inr (Or.inr (Or.inr ⟨a, e, h.same s⟩)))
theorem OddV.keep_ne {H G : Hp} {x : V} {d : Addr} (h : OddV x H) (hd : DiceAt H d) (s : Keep d H G) (n : x ≠ .ref d) : OddV x G := by
  rcases h with h | h | h | h | ⟨a, e, h⟩
  · exact Or.inl h
  · exact Or.inr (Or.inl h)
  · exact Or.inr (Or.inr (Or.inl h))
  · exact Or.inr (Or.inr (Or.inr (Or.inl h)))
  · exact Or.inr (Or.inr (Or.inr (Or.inr ⟨a, e, h.keep s fun z => n (by rw [e, z])⟩)))
theorem OddV.dc {H G : Hp} {x : V} {d : Addr} (h : OddV x H) (c : Dc d H G) : OddV x G := by
  by_cases e : x = .ref d
  · obtain ⟨_, _, _, z⟩ := c.dice
    exact Or.inr (Or.inr (Or.inr (Or.inr ⟨d, e, Or.inl ⟨_, z⟩⟩)))
  · rcases h with h | h | h | h | ⟨a, e', h⟩
    · exact Or.inl h
    · exact Or.inr (Or.inl h)
    · exact Or.inr (Or.inr (Or.inl h))
    · exact Or.inr (Or.inr (Or.inr (Or.inl h)))
    · exact Or.inr (Or.inr (Or.inr (Or.inr ⟨a, e', h.keep c.keep fun z => e (by rw [e', z])⟩)))
theorem OddV.cases {K : PySem.W.Frag} {H : Hp} {x : V} (h : OddV x H) : (∃ s, x = .str s ∧ Txt1 s) ∨ NotStr K H x := by
  rcases h with h | rfl | ⟨b, rfl⟩ | ⟨i, rfl⟩ | ⟨a, rfl, h⟩
  · exact Or.inl h
  · exact Or.inr NotStr.non
  · exact Or.inr NotStr.bl
  · exact Or.inr NotStr.int
  · refine Or.inr ?_
    rcases h with ⟨xs, e⟩ | ⟨xs, e⟩ | ⟨xs, e⟩
    · exact ⟨_, .base (.lst e), kit_ty (by decide +kernel)⟩
    · exact ⟨_, .base (.tup e), kit_ty (by decide +kernel)⟩
    · exact ⟨_, .base (.dK e), kit_ty (by decide +kernel)⟩
/-- isinstance(x, str) -/
theorem l_isStr {K : PySem.W.Frag} {H : Hp} {Q : VK} {s : Str} (q : Q (.bl true) H) : rIsi K [.str s, .ty "str"] H Q := ⟨_, _, _, _, true, rfl, .ty "str", .base (.str s), kit_ty (by decide +kernel), q⟩
theorem l_notStr {K : PySem.W.Frag} {H : Hp} {Q : VK} {x : V} (h : NotStr K H x) (q : Q (.bl false) H) : rIsi K [x, .ty "str"] H Q := by
  obtain ⟨t, h1, h2⟩ := h
  exact ⟨_, _, _, _, false, rfl, .ty "str", h1, h2, q⟩
theorem same_keep {d : Addr} {H G J : Hp} (s : Same H G) (n : H d = none) (k : Keep d G J) : Same H J := fun b o e => k b o (ne_of_none e n) (s b o e)
/-- signs of a part of a text are signs of the text -/
theorem cutS_mem {z : Str} {lo hi : Option Int} {c : Nat} (h : c ∈ (cutS z lo hi).cps.toList) : c ∈ z.cps.toList := by
  unfold cutS at h
  exact List.mem_of_mem_drop (List.mem_of_mem_take h)
theorem cutS_len {z : Str} {lo hi : Option Int} : (cutS z lo hi).length ≤ z.length := by
  unfold cutS
  show (((z.cps.toList.drop _).take _).toArray).size ≤ z.cps.size
  rw [List.size_toArray, List.length_take, List.length_drop, Array.length_toList]
  omega
theorem append_len (y z : Str) : (y ++ z).length = y.length + z.length := by
  show (y.cps ++ z.cps).size = _
  rw [Array.size_append]
  rfl
theorem append_mem {y z : Str} {c : Nat} (h : c ∈ (y ++ z).cps.toList) : c ∈ y.cps.toList ∨ c ∈ z.cps.toList := by
  have e : (y ++ z).cps.toList = y.cps.toList ++ z.cps.toList := by
    show (y.cps ++ z.cps).toList = _
    rw [Array.toList_append]
  rw [e] at h
  exact List.mem_append.mp h
end G9

/-! Own exception classes over any built-in one: the object made, super().__init__(text), self.f = v. -/
namespace G9
open PySem PySem.Spec PyProof.Rows L2

/-! ### rows of classes: own ones, then tl -/
def refsThen (tl : List Value) : List Value → Bool
  | .ref _ :: r => refsThen tl r
  | l => l == tl
theorem refsThen_out {tl : List Value} {P : List Value → Prop} (h0 : P tl) (h1 : ∀ c r, P r → P (.ref c :: r)) : ∀ l : List Value, refsThen tl l = true → P l
  | .ref c :: r, e => h1 c r (refsThen_out h0 h1 r e)
  | [], e => by have z : ([] : List Value) = tl := beq_iff_eq.mp e; rw [z]; exact h0
  | .none :: r, e => by have z : (Value.none :: r) = tl := beq_iff_eq.mp e; rw [z]; exact h0
  | .ellipsis :: r, e => by have z : (Value.ellipsis :: r) = tl := beq_iff_eq.mp e; rw [z]; exact h0
  | .notImplemented :: r, e => by have z : (Value.notImplemented :: r) = tl := beq_iff_eq.mp e; rw [z]; exact h0
  | .bool b :: r, e => by have z : (Value.bool b :: r) = tl := beq_iff_eq.mp e; rw [z]; exact h0
  | .int a b :: r, e => by have z : (Value.int a b :: r) = tl := beq_iff_eq.mp e; rw [z]; exact h0
  | .float a b :: r, e => by have z : (Value.float a b :: r) = tl := beq_iff_eq.mp e; rw [z]; exact h0
  | .str a b :: r, e => by have z : (Value.str a b :: r) = tl := beq_iff_eq.mp e; rw [z]; exact h0
  | .bytes a b :: r, e => by have z : (Value.bytes a b :: r) = tl := beq_iff_eq.mp e; rw [z]; exact h0
  | .type a :: r, e => by have z : (Value.type a :: r) = tl := beq_iff_eq.mp e; rw [z]; exact h0
  | .builtin a :: r, e => by have z : (Value.builtin a :: r) = tl := beq_iff_eq.mp e; rw [z]; exact h0
theorem refsThen_has {tl : List Value} (n : String) {l : List Value} (e : refsThen tl l = true) : l.contains (.type n) = tl.contains (.type n) :=
  refsThen_out (P := fun l => l.contains (.type n) = tl.contains (.type n)) rfl (fun c r ih => by rw [List.contains_cons, ih]; rfl) l e
theorem refsThen_pass {tl : List Value} (self : Value) (h : refuseLoop self "__setattr__" tl = pure ()) {l : List Value} (e : refsThen tl l = true) : refuseLoop self "__setattr__" l = pure () :=
  refsThen_out (P := fun l => refuseLoop self "__setattr__" l = pure ()) h (fun c r ih => by rw [refuseLoop_ref]; exact ih) l e
theorem refsThen_some {tl : List Value} (h : tl.isEmpty = false) {l : List Value} (e : refsThen tl l = true) : l.isEmpty = false :=
  refsThen_out (P := fun l => l.isEmpty = false) h (fun c r _ => rfl) l e

/-- what a built-in class must bear so that own classes stand upon it: tl its row of classes, N the class whose __new__ makes it, I its __init__ -/
structure BaseB (B newId initId : String) (tl : List Value) : Prop where
  new : ∃ (N i0 : String) (b0 : List Value), ExcBaseFacts N newId i0 b0 ∧ tl.contains (.type N) = true
  noA : tl.contains (.type "AttributeError") = false
  noN : tl.contains (.type "NameError") = false
  obj : tl.contains (.type "object") = true
  some : tl.isEmpty = false
  pass : ∀ self : Value, refuseLoop self "__setattr__" tl = pure ()
  sup : PySem.W.KxsFacts B initId
  ini : entryFor table initId = Option.some Builtin.«BaseException.__init__»
  pln : plainId initId = true
  knd : builtinKind initId = Option.some .slot
  row : Manifest.signature? initId = Option.some ⟨.positional, "*", B, .self, [⟨"args", .varPos, false⟩]⟩
  nst : (B != "*") = true
  hB : tl.contains (.type B) = true

theorem of_facts {B newId initId : String} {tl : List Value} (F : ExcBaseFacts B newId initId tl) (sup : PySem.W.KxsFacts B initId) (obj : tl.contains (.type "object") = true) (some : tl.isEmpty = false)
    (pass : ∀ self : Value, refuseLoop self "__setattr__" tl = pure ()) : BaseB B newId initId tl :=
  ⟨⟨B, initId, tl, F, F.hasB⟩, F.noAttr, F.noName, obj, some, pass, sup, F.initEntry, F.init.plain, F.initKind, F.initRow, F.noStar, F.hasB⟩
abbrev tlVE : List Value := [.type "ValueError", .type "Exception", .type "BaseException", .type "object"]
abbrev tlIE : List Value := [.type "IndexError", .type "LookupError", .type "Exception", .type "BaseException", .type "object"]
abbrev tlLE : List Value := [.type "LookupError", .type "Exception", .type "BaseException", .type "object"]
abbrev tlOE : List Value := [.type "OverflowError", .type "ArithmeticError", .type "Exception", .type "BaseException", .type "object"]
abbrev tlRE : List Value := [.type "RuntimeError", .type "Exception", .type "BaseException", .type "object"]
abbrev tlKE : List Value := [.type "KeyError", .type "LookupError", .type "Exception", .type "BaseException", .type "object"]
theorem base_VE : BaseB "ValueError" "ValueError.__new__" "ValueError.__init__" tlVE := of_facts F.excBase_ValueError PySem.W.kxs_ValueError (by decide +kernel) rfl fun _ => by kernel_rfl
theorem base_IE : BaseB "IndexError" "IndexError.__new__" "IndexError.__init__" tlIE := of_facts F.excBase_IndexError PySem.W.kxs_IndexError (by decide +kernel) rfl fun _ => by kernel_rfl
theorem base_LE : BaseB "LookupError" "LookupError.__new__" "LookupError.__init__" tlLE := of_facts F.excBase_LookupError PySem.W.kxs_LookupError (by decide +kernel) rfl fun _ => by kernel_rfl
theorem base_OE : BaseB "OverflowError" "OverflowError.__new__" "OverflowError.__init__" tlOE := of_facts F.excBase_OverflowError PySem.W.kxs_OverflowError (by decide +kernel) rfl fun _ => by kernel_rfl
theorem base_RE : BaseB "RuntimeError" "RuntimeError.__new__" "RuntimeError.__init__" tlRE := of_facts F.excBase_RuntimeError PySem.W.kxs_RuntimeError (by decide +kernel) rfl fun _ => by kernel_rfl
theorem base_KE : BaseB "KeyError" "LookupError.__new__" "KeyError.__init__" tlKE where
  new := ⟨"LookupError", _, _, F.excBase_LookupError, by decide +kernel⟩
  noA := by decide +kernel
  noN := by decide +kernel
  obj := by decide +kernel
  some := rfl
  pass := fun _ => by kernel_rfl
  sup := ⟨by show builtinType _ = _; rw [builtinType_eq_fast]; kernel_rfl, by first | kernel_rfl | rfl⟩
  ini := excClass_KeyError.initEntry
  pln := excClass_KeyError.init.plain
  knd := by kernel_rfl
  row := by kernel_rfl
  nst := by decide +kernel
  hB := by decide +kernel

end G9

namespace PySem
namespace G9X
open G9
/-! ### an object of such a class is made: __new__, then the own __init__ -/
section
variable {prog : Program} {w : World} {A : Around} {E : Value → Shared → Prop} {R : Result → Shared → Prop} {h : Heap} {g : Array GenState} {d : Drawn} {t : Nat} {os : OsState}
variable {nm q : Str} {C N : Addr} {bs bm tl : List Value} {hdct : Bool} {sn : List Str} {sub : List Value} {ab : Bool} {col : Option Bool} {dd : Option Addr} {k0 k1 k2 k3 k5 : Option Value} {B newId initId : String}
theorem newX_check {M : Model} {Nn i0 : String} {b0 : List Value} (F : ExcBaseFacts Nn newId i0 b0) (hN : bm.contains (.type Nn) = true) {rest : List Value} {Q : Unit → Shared → Prop}
    (hC : h.get? C = some (excClassObj nm q C N bs bm hdct sn sub ab col dd k0 k1 k2 k3 k5 newId)) (hq : Q () ⟨h, g, d, t, os⟩) : wpAny M A (checkBuiltinCall newId ⟨.ref C :: rest, []⟩) Q E ⟨h, g, d, t, os⟩ := by
  have has : (Value.ref C :: bm).contains (.type Nn) = true := by rw [List.contains_cons, hN, Bool.or_true]
  have star := F.noStar
  simp only [checkBuiltinCall, F.newKind, F.newSplit, F.newRow]
  repeat (first | refine wpAny_loadPart_at hC ?_ | (refine wpAny_isSubtype_exc hC ?_; rw [has]) | refine wpAny_staticBase_exc hC ?_ | refine wpAny_madeBy_exc hC ?_ | simp only [bne_self_eq_false, Bool.false_eq_true, if_false] | wp_step)
  exact hq
theorem newX_code {Nn i0 : String} {b0 : List Value} (F : ExcBaseFacts Nn newId i0 b0) (hN : bm.contains (.type Nn) = true) (hA : bm.contains (.type "AttributeError") = false) (hE : bm.contains (.type "NameError") = false) {rest : List Value}
    (hC : h.get? C = some (excClassObj nm q C N bs bm hdct sn sub ab col dd k0 k1 k2 k3 k5 newId)) (small : rest.length ≤ sizeLine)
    (hq : R (.ok (.ret (.ref (h.objs.size + 1)))) ⟨(h.push { cls := .type "tuple", data := .seq rest.toArray }).push (HandSPX.excO C h.objs.size), g, d, t, os⟩) :
    codeAny (model prog w) A (.builtin newId ⟨.ref C :: rest, []⟩) R ⟨h, g, d, t, os⟩ := by
  have ends := F.ends
  have c1 : (Value.ref C :: bm).contains (.type Nn) = true := by rw [List.contains_cons, hN, Bool.or_true]
  have c2 : (Value.ref C :: bm).contains (.type "AttributeError") = false := by rw [List.contains_cons, hA]; rfl
  have c3 : (Value.ref C :: bm).contains (.type "NameError") = false := by rw [List.contains_cons, hE]; rfl
  refine codeAny_builtinAt F.entry ?_
  unfold Builtin.«BaseException.__new__»
  refine wpAt_bind ?_
  show wpAt _ _ _ (stack >>= _) _ _ _
  refine wpAt_bind (wpAt_stack fun p below => wpAt_of_wpAny ?_)
  wp_walk
  refine wpAt_of_wpAny ?_
  rw [F.owner]
  repeat (first | with_reducible refine wpAny_madeHere_exc F.canon hC ?_ | with_reducible refine wpAny_loadPart_at hC ?_ | (with_reducible refine wpAny_isSubtype_exc hC ?_; first | rw [c1] | rw [c2] | rw [c3]) | wp_step)
  show R _ _
  rw [Heap.size_push]
  exact hq
/-- type.__call__ of such a class -/
theorem makeX_in (T : BaseB B newId initId tl) (hb : refsThen tl bm = true) {rest : List Value} {fI : Addr} {Q : Fin → Shared → Prop}
    (hC : h.get? C = some (excClassObj nm q C N bs bm hdct sn sub ab col dd k0 k1 k2 k3 k5 newId))
    (hi : W.Looks (model prog w) h (typeLookup (.ref C) "__init__") (some (.ref fI))) (hbind : ∀ self, W.Looks (model prog w) h (bindSpecial (.ref fI) self) (.ref fI, [self])) (small : rest.length ≤ sizeLine)
    (hq : codeAny (model prog w) A (.call (.ref fI) ⟨.ref (h.objs.size + 1) :: rest, []⟩)
      (fun r s' => match r with | .ok (.ret v) => v = .none ∧ Q (.done (.ret (.ref (h.objs.size + 1)))) s' | .ok _ => False | .error e => E e s')
      ⟨(h.push (W.kdv_tup rest)).push (HandSPX.excO C h.objs.size), g, d, t, os⟩) :
    wpAny (model prog w) A (Builtin.«type.__call__» ⟨.ref C :: rest, []⟩) Q E ⟨h, g, d, t, os⟩ := by
  obtain ⟨Nn, i0, b0, F, hN⟩ := T.new
  repeat (first | with_reducible refine wpAny_loadPart_at hC ?_ | with_reducible refine wpAny_madeBy_exc hC ?_ | wp_step)
  refine codeAny_call_builtin_code (Code.quiet_builtin _ F.quiet) (newX_check F ((refsThen_has Nn hb).trans hN) hC ?_)
  refine newX_code F ((refsThen_has Nn hb).trans hN) ((refsThen_has _ hb).trans T.noA) ((refsThen_has _ hb).trans T.noN) hC small ?_
  show wpAny _ _ _ _ _ _
  have k : ∀ b o, h.get? b = some o → ((h.push (W.kdv_tup rest)).push (HandSPX.excO C h.objs.size)).get? b = some o := fun b o e => Heap.get?_push_of_some _ (Heap.get?_push_of_some _ e)
  have hC1 := k _ _ hC
  have here : ((h.push (W.kdv_tup rest)).push (HandSPX.excO C h.objs.size)).get? (h.objs.size + 1) = some (HandSPX.excO C h.objs.size) := by heap_get
  have self : (Value.ref C :: bm).contains (.ref C) = true := by simp
  have i1 := hi.keeps k
  have b1 := (hbind (.ref (h.objs.size + 1))).keeps k
  unfold isInstance
  repeat (first | with_reducible refine wpAny_loadPart_at here ?_ | (with_reducible refine wpAny_isSubtype_exc hC1 ?_; rw [self]) | wp_step)
  show wpAny _ _ (typeLookup (.ref C) _) _ _ _
  refine i1.at (wpAny_holding (wpAny_bind (b1.at (wpAny_bind (wpAny_call (codeAny_mono hq fun r s' z => ?_))))))
  rcases r with e | (v | _ | _ | _) <;> first | exact z | exact z.elim | skip
  obtain ⟨rfl, z⟩ := z
  first
    | exact wpAny_pure (wpAny_pure z)
    | (wp_walk; exact z)
/-- C(rest): the object, then its __init__ -/
theorem makeX (T : BaseB B newId initId tl) (hb : refsThen tl bm = true) {rest : List Value} {fI : Addr}
    (hC : h.get? C = some (excClassObj nm q C N bs bm hdct sn sub ab col dd k0 k1 k2 k3 k5 newId))
    (hi : W.Looks (model prog w) h (typeLookup (.ref C) "__init__") (some (.ref fI))) (hbind : ∀ self, W.Looks (model prog w) h (bindSpecial (.ref fI) self) (.ref fI, [self])) (small : rest.length ≤ sizeLine)
    (hq : codeAny (model prog w) (A.under (.builtin "type.__call__" ⟨.ref C :: rest, []⟩)) (.call (.ref fI) ⟨.ref (h.objs.size + 1) :: rest, []⟩) (W.InitBack (h.objs.size + 1) R)
      ⟨(h.push (W.kdv_tup rest)).push (HandSPX.excO C h.objs.size), g, d, t, os⟩) :
    codeAny (model prog w) A (.call (.ref C) ⟨rest, []⟩) R ⟨h, g, d, t, os⟩ := by
  have lk := tc_lookup
  have bd := tc_bind (.ref C)
  have ty : (⟨h, g, d, t, os⟩ : Shared).TypeIs (.ref C) "type" := ⟨_, hC, rfl⟩
  refine codeAny_of_tree ?_
  show wpAny _ _ (callAny (.ref C) _) _ _ _
  repeat (any_goals (first | assumption | with_reducible refine wpAny_loadPart_at hC ?_ | wp_step))
  refine ⟨rfl, ?_⟩
  refine codeAny_call_builtin_at (Code.quiet_builtin _ (by decide +kernel)) entry_typeCall (wpAny_check_type_call_sub hC (makeX_in T hb hC hi hbind small ?_))
  refine codeAny_mono hq fun r s' z => ?_
  rcases r with e | (v | _ | _ | _) <;> exact z

/-! ### the bound __init__ of the built-in class: the args are laid anew -/
abbrev mwO (i : String) (x : Addr) : Obj := { cls := .type "method-wrapper", data := .fields #[.builtin i, .ref x] }
theorem callB (T : BaseB B newId initId tl) {u e t0 : Addr} {rest : List Value} {Q : Value → Shared → Prop}
    (hC : h.get? C = some (excClassObj nm q C N bs bm hdct sn sub ab col dd k0 k1 k2 k3 k5 newId)) (he : h.get? e = some (HandSPX.excO C t0)) (hu : h.get? u = some (mwO initId e)) (small : rest.length ≤ sizeLine)
    (hq : ∀ h' t1, (∀ b o, b ≠ e → h.get? b = some o → h'.get? b = some o) → h'.get? e = some (HandSPX.excO C t1) → Q .none ⟨h', g, d, t, os⟩) :
    wpAny (model prog w) A (call (.ref u) rest) Q E ⟨h, g, d, t, os⟩ := by
  refine wpAny_call (codeAny_of_tree ?_)
  show wpAny _ A.in1 (callAny (.ref u) ⟨rest, []⟩) _ _ _
  simp only [callAny]
  refine wpAny_bind (wpAny_load hu ?_)
  simp only [mwO, show (Value.type "method-wrapper" == Value.type "method" || Value.type "method-wrapper" == Value.type "builtin_function_or_method" || Value.type "method-wrapper" == Value.type "method-wrapper") = true by decide, if_true]
  refine W.KFB.if_so (by decide) ?_
  refine wpAny_bind ?_
  · have star := T.nst
    simp only [checkBoundCall, T.knd, T.row]
    repeat (first | (with_reducible refine wpAny_loadPart_at he ?_) | with_reducible refine wpAny_loadPart_at hC ?_ | wp_step)
    refine wpAny_onRaise ?_
    rw [show ∀ (a b : String) (n : Nat), Bind.check ⟨.positional, "*", B, .self, [⟨"args", .varPos, false⟩]⟩ a b n (List.map (fun x => x.fst) ({ pos := Value.ref e :: rest } : Args).kw) = pure () from
      fun a b n => check_star_args _ _ _ _ _ _]
    refine wpAny_pure ?_
    refine wpAny_bind (wpAny_pure (wpAny_pure ?_))
    refine ⟨plainId_quiet T.pln _, codeAny_builtin T.ini ?_⟩
    exact W.exc_init_tree (cls := .ref C) (t0 := t0) (dv := none) (c2 := .none) (c3 := .none) (b4 := .bool false) he small fun h' k e' _ => hq h' _ k e'
end
end G9X
end PySem

namespace PySem
namespace G9X
open G9 Builtin Builtin.ObjectAttr
section
variable {prog : Program} {w : World} {A : Around} {R : Result → Shared → Prop} {hp : Heap} {g : Array GenState} {d : Drawn} {t : Nat} {os : OsState} {B newId initId : String} {tl : List Value}
/-- self.name = v on an exception that has no dict yet -/
theorem storeX (T : BaseB B newId initId tl) {K : W.Frag} {name : Str} {tk : Tok} {v : Value} {x C : Addr} {fv : Array Value} {cd : ClassData}
    (X : K.In hp) (hx : hp.get? x = some { cls := .ref C, data := .fields fv }) (hcd : W.clsIn K C = some cd) (hm : refsThen tl cd.mro = true) (hh : cd.hasDict = true) (ha : W.findIn K (.ref C) name = some none)
    (hq : ∀ h' tk' dx, (∀ b o, b ≠ x → hp.get? b = some o → h'.get? b = some o) → hp.objs.size ≤ dx → dx ≠ x → h'.get? x = some { cls := .ref C, dict := some dx, data := .fields fv } →
      h'.Ns1 dx (fun y => if y = name then some v else none) → R (.ok (.ret .none)) ⟨h', g, d, tk', os⟩) :
    codeAny (model prog w) A (.call (.builtin "object.__setattr__") ⟨[.ref x, .str name tk, v], []⟩) R ⟨hp, g, d, t, os⟩ := by
  have I : W.InstAt hp x { cls := .ref C, data := .fields fv } C none := ⟨hx, rfl, rfl, trivial⟩
  have S := F.store_object
  have here : cd.mro.contains (.type "object") = true := (refsThen_has "object" hm).trans T.obj
  have xs : x ≠ hp.objs.size := Nat.ne_of_lt (Heap.lt_size hx)
  have isObj : W.Looks (model prog w) hp (isInstance (.ref x) (.type "object")) true :=
    I.type.andThen (W.looks_mroIn X (by unfold W.mroIn; rw [hcd, Option.bind_some, if_neg (by rw [refsThen_some T.some hm]; decide), here]))
  refine codeAny_call_builtin S.slot.plain S.entry (@W.check_slot (model prog w) _ _ ⟨hp, g, d, t, os⟩ "object.__setattr__" "object" "__setattr__" (.ref x) [.str name tk, v] [] _ S.kind S.split isObj (S.args (.ref x) (.str name tk) v) ?_)
  have row : W.Looks (model prog w) hp (mroOf (.ref C)) cd.mro := (W.looks_clsIn X hcd).andThen .now
  have noTaker : W.Looks (model prog w) hp (storeTaker? none) none := .now
  have cls : W.Looks (model prog w) hp (classData C) cd := W.looks_clsIn X hcd
  rw [W.osa_eq, refuse_eq]
  refine wpAny_bind (wpAny_bind (I.type.at (wpAny_bind (row.at ?_))))
  rw [refsThen_pass _ (T.pass _) hm]
  refine wpAny_pure (wpAny_bind (I.type.at (wpAny_bind ((W.looks_findIn X ha).at (wpAny_bind (noTaker.at ?_))))))
  show wpAny _ _ (storeInOwnDict (.ref x) (.ref C) (.str name tk) name v false) _ _ _
  obtain ⟨nm, bs, mro, ns, qn, hd, sn, sb, ab, col, del⟩ := cd
  dsimp only at hh
  subst hh
  unfold storeInOwnDict ownDictForStores
  repeat (first | with_reducible refine HandSPX.store_in_new ?_ ?_ | with_reducible refine wpAny_loadPart_at hx ?_ | with_reducible refine cls.at ?_ | wp_step)
  · exact ⟨_, #[], _, (Heap.get?_update_ne _ _ _ _ xs.symm).trans (Heap.get?_push_at rfl rfl), rfl, fun e he => absurd he (by simp), fun _ => rfl⟩
  · intro h' tk' hn' hs
    have there : (hp.push { cls := .type "dict", data := .dict #[] }).get? x = some { cls := .ref C, data := .fields fv } := Heap.get?_push_of_some _ hx
    refine hq h' tk' hp.objs.size (fun b o hb ho => ?_) (Nat.le_refl _) xs.symm ?_ hn'
    · exact (hs.2 b (Nat.ne_of_lt (Heap.lt_size ho))).trans ((Heap.get?_update_ne _ _ _ _ hb).trans (Heap.get?_push_of_some _ ho))
    · exact (hs.2 x xs).trans (Heap.get?_update_self _ there rfl)
end
end G9X
end PySem

namespace G9
open PySem PySem.Spec PyProof.Rows L2
/-- what the written part says of an own exception class with an own __init__ -/
structure OexB (B newId initId : String) (tl : List Value) (K : PySem.W.Frag) (C : Addr) : Prop where
  T : BaseB B newId initId tl
  cls : ∃ nm q N bs bm sn sub ab col dd k0 k1 k2 k3 k5, K.lookup C = some (excClassObj nm q C N bs bm true sn sub ab col dd k0 k1 k2 k3 k5 newId) ∧ refsThen tl bm = true
  sa : PySem.W.findIn K (.ref C) "__setattr__" = some (some (.builtin "object.__setattr__"))
  exC : PySem.W.subIn K (.ref C) (.type "BaseException") = some true
  tyC : PySem.W.typeIn K (.ref C) = some (.type "type")
  kC : PySem.W.keepIn K (.ref C) = true
  hasB : PySem.W.subIn K (.ref C) (.type B) = some true
  opq : PySem.W.nsIn K cStatics "thirdparty.any" = some none
  sup : PySem.W.ks_superIn K C C "__init__" = some (some (.builtin initId))
section
variable {B newId initId : String} {tl : List Value} {X : Cx} {pins : List (Addr × Obj)} {σ : L2.St} {H : Hp} {s : Shared} {a C dx : Addr} {f : Str} {y : V} {u : Value} {fs : List (Str × V)} {E : Value → Shared → Prop} {A : Around}
/-- self.f = y, the first one -/
theorem put_first {Q : Unit → Shared → Prop} (T : OexB B newId initId tl X.K C) (I : Inv X pins σ H s) (e : H a = some (exo a C none)) (hno : PySem.W.findIn X.K (.ref C) f = some none) (ry : RelV y u)
    (h : ∀ dx s', H dx = none → dx ≠ a → Inv X pins σ (upd (upd H dx (exd dx [(f, y)])) a (exo a C (some dx))) s' → Q () s') : wpAny (model X.prog X.w) A (setAttr (.ref a) f u) Q E s := by
  obtain ⟨nm, q, N, bs, bm, sn, sub, ab, col, dd, k0, k1, k2, k3, k5, hC, hbm⟩ := T.cls
  have cl : PySem.W.clsIn X.K C = some { name := nm, bases := bs, mro := .ref C :: bm, ns := N, qualname := q, hasDict := true, slotNames := sn, subclasses := sub, abstract := ab, collection := col, hasDel := false } := by unfold PySem.W.clsIn; rw [hC] <;> rfl
  obtain ⟨t1, ho⟩ := exo_at I.hok e
  obtain ⟨hp, g, d, t, os⟩ := s
  refine PySem.W.set_plain I.kIn (ox := { cls := .ref C, dict := none, data := .fields #[.ref t1, .none, .none, .none, .bool false, .none] }) (od := none) ⟨ho, rfl, rfl, trivial⟩ T.sa ?_
  refine PySem.G9X.storeX T.T I.kIn ho cl (show refsThen tl (.ref C :: bm) = true from hbm) rfl hno fun h' tk' dx k dn dne hx hn => ?_
  have fresh : H dx = none := I.hok.fresh dn
  have older : ∀ {b : Addr} {o : Obj}, hp.get? b = some o → b ≠ dx := fun q z => absurd (Heap.lt_size q) (by rw [z]; exact Nat.not_lt.mpr dn)
  have other : ∀ {b : Addr}, H b = none → b ≠ a := fun n z => by
    rw [z, e] at n
    cases n
  refine h dx _ fresh dne (I.un (t' := tk') ⟨fun b o q n _ _ => k b o (other n) q, fun b o q n _ _ => ⟨o.slots, k b o (other n) q⟩, fun b o q n _ => ?_, fun b o q _ => ?_, fun b xs q => ?_, fun b o v q => ?_, fun b ps q => ⟨#[], ?_⟩⟩ fun b o q => ?_)
  · rw [upd_ne (other n), upd_ne (older q)]
    exact n
  · by_cases hb : b = a
    · exact ⟨_, by rw [hb]; exact hx⟩
    · exact ⟨o, k b o hb q⟩
  · rw [upd_ne (at_ne e q exo_tup), upd_ne (ne_of_none q fresh)]
    exact q
  · rw [upd_ne (at_ne e q exo_frz), upd_ne (ne_of_none q fresh)]
    exact q
  · rw [upd_ne (at_ne e q exo_tbl), upd_ne (ne_of_none q fresh), q]
    simp
  · by_cases hb : b = a
    · subst hb
      rw [upd_same] at q
      cases q
      exact exo_ok hx
    rw [upd_ne hb] at q
    by_cases hd : b = dx
    · subst hd
      rw [upd_same] at q
      cases q
      exact exd_ok hn (relO_put (fs := []) ry fun g => True.intro)
    rw [upd_ne hd] at q
    refine (I.hok b o q).stay (fun c v hc z => k c v ?_ z) (fun c hc => ?_) fun c xs hc => ?_
    · rcases hc with hc | hc
      · rw [hc]
        exact hb
      · exact at_ne e hc exo_own
    · rw [upd_ne (at_ne e hc exo_own), upd_ne (ne_of_none hc fresh)]
      exact hc
    · rw [upd_ne (at_ne e hc exo_tup), upd_ne (ne_of_none hc fresh)]
      exact hc
/-- the bound __init__ of the built-in class, called: the object's args change, nothing that is told of it -/
theorem init_bound {us : List Value} {ub : Addr} {Q : Value → Shared → Prop} (T : OexB B newId initId tl X.K C) (I : Inv X pins σ H s) (e : H a = some (exo a C none)) (hu : s.heap.get? ub = some (PySem.G9X.mwO initId a)) (small : us.length ≤ sizeLine)
    (h : ∀ s', Inv X pins σ H s' → Q .none s') : wpAny (model X.prog X.w) A (call (.ref ub) us) Q E s := by
  obtain ⟨nm, q, N, bs, bm, sn, sub, ab, col, dd, k0, k1, k2, k3, k5, hC, hbm⟩ := T.cls
  obtain ⟨t1, ho⟩ := exo_at I.hok e
  obtain ⟨hp, g, d, t, os⟩ := s
  refine PySem.G9X.callB T.T (I.kIn _ _ hC) ho hu small fun h' t2 k hx => ?_
  have J := I.write (t' := t) (x := a) (e := a) (o := exo a C none) (by rw [e]; exact True.intro) (.inl rfl) k ⟨_, hx⟩ (exo_ok hx)
  have same : upd H a (exo a C none) = H := by
    funext b
    by_cases hb : b = a
    · rw [hb, upd_same, e]
    · rw [upd_ne hb]
  rw [same] at J
  exact h _ J
end
/-- self.f = e -/
def tPut (B newId initId : String) (tl : List Value) (K : PySem.W.Frag) (f : Str) (to te : TE) : TS := fun D σ H => te σ H fun y H1 => to σ H1 fun x H2 => ∃ a C : Addr, x = .ref a ∧ OexB B newId initId tl K C ∧ PySem.W.findIn K (.ref C) f = some none ∧
  H2 a = some (exo a C none) ∧ ∀ dx, H2 dx = none → dx ≠ a → D.nx σ (upd (upd H2 dx (exd dx [(f, y)])) a (exo a C (some dx)))
theorem ps_put {B newId initId : String} {tl : List Value} {X : Cx} {o e : Expr} {to te : TE} {f : Str} {p' pos : Pos} (ho : PE X o to) (he : PE X e te) (hs : swapsWith e (some (.Attribute o f p')) pos.line X.env = pure false := by rfl) :
    PS X (.Assign [.Attribute o f p'] e pos) (tPut B newId initId tl X.K f to te) := by
  refine ⟨fun pins s σ H D I h => ?_⟩
  refine plainObj_wpAny_Assign_Attribute (thn (he.run pins s σ H _ I h) fun v s1 ⟨y, H1, I1, r1, q1⟩ => thn (ho.run pins s1 σ H1 _ I1 q1) fun u s2 ⟨x, H2, I2, r2, a, C, ex, T, hno, ea, q⟩ => ?_) hs
  subst ex
  obtain rfl : u = Value.ref a := r2
  exact put_first T I2 ea hno r1 fun dx s' n ne J => ⟨σ, _, J, q dx n ne⟩
end G9

namespace G9
open PySem PySem.Spec PyProof.Rows L2
/-! ### a def in a class whose body says super().__init__(..): its closure, and its body walked -/
/-- what a def in the class C must be so that super() in it is C's: f its address, fd the def -/
structure SupFn (P : Program) (K : PySem.W.Frag) (mg : Str → Option Value) (qual me : Str) (st : Stmt) (f C : Addr) (fd : FuncData) : Prop where
  ex : ∃ (oc kV doc pm ct ccl cl : Value) (od an cdd cld : Option Addr) (osl ccs csl : Array (Option Value)) (cda cc : Addr) (vs : Array Value) (file : Str) (tf : Tok),
    fd = PySem.W.fnX "__init__" qual (defArgs st) (defBody st) (defScope st) [("__class__", cc)] .none kV doc pm an (.ref cda) ct ∧ K.lookup f = some ⟨oc, od, .func fd, osl⟩ ∧ PySem.W.codeIn K (.ref cda) qual = true ∧
    K.lookup cda = some ⟨ccl, cdd, .fields vs, ccs⟩ ∧ vs[2]? = some (.str file tf) ∧ ((P.main.file : Str) == file) = true ∧ K.lookup cc = some ⟨cl, cld, .cell (some (.ref C)), csl⟩
  top : (P.main.scope.names.lookup ("super" : Str)).isSome = false
  sup : mg "super" = none
  ar : ((defArgs st).posonlyargs ++ (defArgs st).args).head?.map (·.arg) = some me
/-- the scope of such a def -/
structure SupScope (N ps : List Str) (me : Str) (sc : Scope) : Prop where
  kind : sc.kind = .function
  co : sc.isCoroutine = false
  gen : sc.isGenerator = false
  nd : N.Nodup
  pre : N.take ps.length = ps
  loc : ∀ x ∈ ps, sc.names.lookup x = some .local
  nocell : ∀ y ∈ sc.names, y.2 ≠ .cell
  free : ∀ y ∈ sc.names, y.2 = .free → y.1 = ("__class__" : Str)
  cls : sc.names.lookup ("__class__" : Str) = some .free
  sup : sc.names.lookup ("super" : Str) = some .globalImplicit
  me : me ∈ ps

/-- the context of its body -/
def cxS (CX : CXT) (P : Program) (w : World) (K : PySem.W.Frag) (mg : Str → Option Value) (base : Heap) (N : List Str) (qual : Str) (scope : Scope) (f : Addr) (cdv : Value) (cc : Addr) (A : Around) (fs : List Env) (s : Shared) (H : Hp) (E : XK) : Cx where
  prog := P
  w := w
  K := K
  mg := mg
  base := base
  A := A.deeper (PySem.W.envX qual scope s.heap.objs.size f cdv [("__class__", cc)])
  N := N
  s_0 := s
  H_0 := H
  env := PySem.W.envX qual scope s.heap.objs.size f cdv [("__class__", cc)]
  outer := fs
  stack := PySem.W.envX qual scope s.heap.objs.size f cdv [("__class__", cc)] :: fs
  ex := []
  calm := true
  fn := fun _ => false
  pn := []
  xe := fun e s' => wpAny (model P w) (A.deeper (PySem.W.envX qual scope s.heap.objs.size f cdv [("__class__", cc)])) (leaving (PySem.W.envX qual scope s.heap.objs.size f cdv [("__class__", cc)]) e) (fun _ s'' => CX fs H s E e s'') (fun e' s'' => CX fs H s E e' s'') s'

section
variable {CX : CXT} {P : Program} {w : World} {K : PySem.W.Frag} {mg : Str → Option Value} {base : Heap} {N ps : List Str} {qual me : Str} {scope : Scope} {f cc C : Addr} {cdv : Value} {A : Around} {fs : List Env} {s : Shared} {H : Hp} {E : XK} {us : List Value} {vs : List V}
theorem lookup_one : ∀ {l : List (Str × Value)} {x : Str} {u : Value}, (x, u) ∈ l → (∀ v, (x, v) ∈ l → v = u) → l.lookup x = some u
  | [], _, _, h, _ => nomatch h
  | (y, v) :: l, x, u, h, q => by
    by_cases e : x = y
    · subst e
      have z := q v List.mem_cons_self
      subst z
      simp [List.lookup]
    · have b : (x == y) = false := by simpa using e
      simp only [List.lookup, b]
      refine lookup_one ?_ fun v hv => q v (List.mem_cons_of_mem _ hv)
      rcases List.mem_cons.mp h with z | z
      · cases z
        exact absurd rfl e
      · exact z
theorem lookup_zip {ps : List Str} {us : List Value} {i : Nat} {x : Str} {u : Value} (nd : ps.Nodup) (hx : ps[i]? = some x) (hu : us[i]? = some u) : (ps.zip us).reverse.lookup x = some u := by
  refine lookup_one ?_ fun v hv => ?_
  · rw [List.mem_reverse, List.mem_iff_getElem?]
    exact ⟨i, by rw [List.getElem?_zip_eq_some]; exact ⟨hx, hu⟩⟩
  · rw [List.mem_reverse, List.mem_iff_getElem?] at hv
    obtain ⟨j, e⟩ := hv
    rw [List.getElem?_zip_eq_some] at e
    have ij : j = i := nodup_ix nd e.1 hx
    subst ij
    have z := e.2.symm.trans hu
    exact Option.some.inj z

theorem inv_startS (S : SupScope N ps me scope) (hd : A.handled = none) (e0 : Env0 P w K mg base A fs s H) (hl : vs.length = ps.length) (r : Vals vs us) (hc : ∃ (cl : Value) (cld : Option Addr) (csl : Array (Option Value)), K.lookup cc = some ⟨cl, cld, .cell (some (.ref C)), csl⟩)
    {h1 : Heap} {tk : Nat} (hns : h1.Ns s.heap.objs.size (fun x => (ps.zip us).reverse.lookup x)) (hk : ∀ b o, s.heap.get? b = some o → h1.get? b = some o) :
    Inv (cxS CX P w K mg base N qual scope f cdv cc A fs s H E) [] (start N vs) H { s with heap := h1, toks := tk } := by
  obtain ⟨cl, cld, csl, hc⟩ := hc
  have cell : ∀ x c, (cxS CX P w K mg base N qual scope f cdv cc A fs s H E).env.cells.lookup x = some c → x = "__class__" ∧ c = cc := by
    intro x c e
    have e' : List.lookup x [(("__class__" : Str), cc)] = some c := e
    by_cases hx : x = "__class__"
    · subst hx
      have z : some cc = some c := by simpa [List.lookup] using e'
      exact ⟨rfl, (Option.some.inj z).symm⟩
    · have b : (x == ("__class__" : Str)) = false := by simpa using hx
      simp [List.lookup, b] at e'
  have baseC := e0.mod.kin _ _ hc
  have noX : ∀ b : Addr, b ∉ (cxS CX P w K mg base N qual scope f cdv cc A fs s H E).ex := fun b z => nomatch z
  have ul : us.length = ps.length := r.length.symm.trans hl
  have pl : ps.length ≤ N.length := by have := congrArg List.length S.pre; rw [List.length_take] at this; omega
  refine ⟨⟨e0.mod, S.kind, rfl, rfl, Nat.le_refl _, fun x y c h1 h2 => ?_, fun x hx => ?_, (fun x c h => nomatch h), fun _ => hd, Around.frames_deeper e0.frames, .inr ⟨rfl, rfl⟩, fun b z => absurd z (noX b), e0.bs, e0.bsz, fun b _ _ => noX b, fun b z => absurd z (noX b), e0.funs, e0.frf⟩,
    rfl, e0.bare, Un.kept hk, ⟨_, hns, fun i x v h1 h2 h3 => ?_⟩, fun x c e => ?_, e0.hok.fresh (Nat.le_refl _), fun x c e => ?_, (fun p hp => nomatch hp), e0.hok.kept hk, ?_⟩
  · exact (cell x c h1).1.trans (cell y c h2).1.symm
  · have free : x = "__class__" := by
      have hx' : scope.names.lookup x = some .cell ∨ scope.names.lookup x = some .free := hx
      rcases hx' with q | q
      · exact absurd rfl (S.nocell _ (PySem.mem_of_lookup q))
      · exact S.free _ (PySem.mem_of_lookup q) rfl
    subst free
    exact ⟨cc, rfl⟩
  · have iv : i < vs.length := by
      unfold L2.start at h2
      rw [List.getElem?_append] at h2
      split at h2
      · rename_i q
        simpa using q
      · rw [List.getElem?_replicate] at h2
        split at h2 <;> cases h2
    have e2 : vs[i]? = some v := by
      unfold L2.start at h2
      rw [List.getElem?_append_left (by simpa using iv), List.getElem?_map] at h2
      cases q : vs[i]? with
      | none => rw [q] at h2; cases h2
      | some z => rw [q] at h2; cases h2; rfl
    have e1 : ps[i]? = some x := by
      rw [← S.pre, List.getElem?_take, if_pos (by omega)]
      exact h1
    obtain ⟨u, hu, ru⟩ := r.get e2
    refine ⟨u, ru, Or.inl ⟨S.loc x (List.mem_of_getElem? e1), ?_⟩⟩
    refine lookup_zip ?_ e1 hu
    rw [← S.pre]
    exact S.nd.sublist (List.take_sublist _ _)
  · obtain ⟨_, rfl⟩ := cell x c e
    exact ⟨_, ⟨_, hk _ _ (e0.bs _ _ baseC).1, rfl⟩⟩
  · obtain ⟨_, rfl⟩ := cell x c e
    exact (e0.bs _ _ baseC).2
  · show (L2.start N vs).length = N.length
    unfold L2.start
    simp
    omega
end
end G9

namespace G9
open PySem PySem.Spec PyProof.Rows L2
section
variable {B newId initId : String} {tl : List Value} {X : Cx} {pins : List (Addr × Obj)} {σ : L2.St} {H : Hp} {s : Shared} {a C : Addr}
/-- super().__init__ of an object that is being made: bound -/
theorem get_sup {so : Addr} {pl : Sem Bool} {Q : Value × List Value → Shared → Prop} (T : OexB B newId initId tl X.K C) (I : Inv X pins σ H s) (e : H a = some (exo a C none)) (hs : s.heap.get? so = some (PySem.W.ks_superObj C a C))
    (h : ∀ u s', Inv X ((u, PySem.G9X.mwO initId a) :: pins) σ H s' → Q (.ref u, []) s') : wpAny (model X.prog X.w) X.A (getMethod (.ref so) "__init__" pl) Q X.xe s := by
  obtain ⟨t1, ho⟩ := exo_at I.hok e
  have J : PySem.W.InstAt s.heap a { cls := .ref C, dict := none, data := .fields #[.ref t1, .none, .none, .none, .bool false, .none] } C none := ⟨ho, rfl, rfl, trivial⟩
  have K := I.kIn
  obtain ⟨hp, g, d, t, os⟩ := s
  cases hc : PySem.W.clsIn X.K C with
  | none =>
    have z := T.sup
    unfold PySem.W.ks_superIn at z
    rw [hc] at z
    cases z
  | some cd =>
    have z := T.sup
    unfold PySem.W.ks_superIn at z
    rw [hc] at z
    refine PySem.W.kxs_getMethod T.T.sup hs (PySem.W.looks_opaque K T.opq) (l₀ := cd.mro) ?_ rfl K z (J.type.andThen (PySem.W.looks_subIn K T.hasB)) (PySem.W.ks_ne K J hc) (by decide) ?_
    · exact fun A Q E s k q => wpAny_bind ((PySem.W.looks_clsIn K hc) A _ E s k (wpAny_pure q))
    · exact h _ _ (ClX.pin_new I (fun b o q => Heap.get?_push_of_some _ q) (Nat.le_refl _) (Heap.get?_push_size _ rfl) fun v => nofun)
/-- super().__init__(e) -/
theorem sup_stmt {body : List Stmt} {ej : Expr} {te : TE} {p0 p1 p2 p7 p8 : Pos} {D : Ends} {f cc cda : Addr} {me : Str} {fd : FuncData} {oc ccl cl : Value} {od cdd cld : Option Addr} {osl ccs csl : Array (Option Value)} {vs : Array Value} {file : Str} {tf : Tok}
    (T : OexB B newId initId tl X.K C) (I : Inv X [] σ H s) (eH : H a = some (exo a C none))
    (hfd : X.K.lookup f = some ⟨oc, od, .func fd, osl⟩) (har : (fd.params.posonlyargs ++ fd.params.args).head?.map (·.arg) = some me)
    (hcode : X.K.lookup cda = some ⟨ccl, cdd, .fields vs, ccs⟩) (hvs : vs[2]? = some (.str file tf)) (hfile : ((X.prog.main.file : Str) == file) = true) (hcell : X.K.lookup cc = some ⟨cl, cld, .cell (some (.ref C)), csl⟩)
    (htop : (X.prog.main.scope.names.lookup ("super" : Str)).isSome = false) (hsup : X.mg "super" = none)
    (ef : X.env.func = some f) (ec : X.env.code = .ref cda) (ecl : X.env.cells.lookup ("__class__" : Str) = some cc) (ks : X.env.kindOf "super" = some .globalImplicit) (kc : X.env.kindOf "__class__" = some .free) (km : X.env.kindOf me = some .local)
    {i : Nat} (hi : X.N[i]? = some me) (hσ : σ[i]? = some (some (.ref a)))
    (he : PE X ej te) {pl : Sem Bool} (hev : eval (.Call (.Attribute (.Call (.Name "super" p0) [] [] p1) "__init__" p2) [ej] [] p7) X.env = (do
      let ov ← attributeBase (.Call (.Name "super" p0) [] [] p1) "__init__" X.env (eval (.Call (.Name "super" p0) [] [] p1) X.env)
      standAt p2.atName
      let (f, first) ← holding [ov] (getMethod ov "__init__" pl)
      callWith p7 f first (backTo p7 (starEach [ej] X.env)) [])) (hst : starEach [ej] X.env = (false, eval ej X.env) :: starEach [] X.env)
    (want : te σ H fun x H1 => H1 a = some (exo a C none) ∧ D.nx σ H1) :
    _root_.PySem.wpAt (model X.prog X.w) X.A (.func body X.env) (exec (.Expr (.Call (.Attribute (.Call (.Name "super" p0) [] [] p1) "__init__" p2) [ej] [] p7) p8) X.env) (SP X [] D) X.xe s := by
  obtain ⟨nm, q, N, bs, bm, sn, sub, ab, col, dd, k0, k1, k2, k3, k5, hC, hbm⟩ := T.cls
  obtain ⟨t1, ho⟩ := exo_at I.hok eH
  obtain ⟨ar, hp, hme⟩ := Option.map_eq_some_iff.mp har
  have KX := I.kIn
  obtain ⟨mb, hb1, hb2⟩ := I.mod.blt
  obtain ⟨m, hns, hlook⟩ := I.loc
  obtain ⟨u, ru, lk⟩ := hlook i me _ hi hσ (Or.inl km)
  have eu : u = Value.ref a := ru
  subst eu
  have hm : m me = some (.ref a) := by
    rcases lk with ⟨_, z⟩ | ⟨z, _⟩
    · exact z
    · rw [km] at z
      rcases z with z | z <;> cases z
  have mro : PySem.W.mroIn X.K C (.ref C) = some true := by
    unfold PySem.W.mroIn PySem.W.clsIn
    rw [hC]
    simp
  refine PySem.ks_wpAt_Expr_any (hi := I.quiet) (PySem.ks_wpAt_MethodCall (pl := pl) ?_ hev)
  refine PySem.ks_wpAt_super_base ks kc (by decide) ef (KX _ _ hfd) rfl hp ec (KX _ _ hcode) rfl hvs hfile htop ?_
  refine PySem.W.ks_loadName_global I.ok.kind ks (Calls.loadGlobal_builtin (by rw [I.ok.glob]; exact I.mod.glob.keeps I.bk) hsup (by rw [I.ok.blt]; exact hb1.keeps I.bk) ((hb2 _ (by decide)).trans (by decide +kernel : bootBuiltins "super" = some (.type "super"))) ⟨rfl, ?_⟩)
  refine wpAny_loadName_free I.ok.kind kc ecl ⟨_, KX _ _ hcell, rfl⟩ ?_
  rw [hme]
  refine wpAny_loadName_local I.ok.kind km hns hm ?_
  obtain ⟨hp0, g, d, t, os⟩ := s
  refine PySem.ks_wpAny_isType_cls (KX _ _ hC) rfl ⟨rfl, ?_⟩
  refine PySem.ks_wpAny_call_super (KX _ _ hC) rfl ho rfl (fun c => nofun) (PySem.W.looks_mroIn KX mro) fun h' e k => ?_
  have I1 : Inv X [] σ H ⟨h', g, d, t, os⟩ := I.kept (t' := t) k
  refine get_sup T I1 eH e fun u s2 I2 => ?_
  rw [hst]
  refine PySem.W.kxs_callWith (i := initId) (x := a) rfl (Calls.evalArgs_plain ?_)
  show wpAny _ _ (spliced ((false, eval ej X.env) :: backTo p7 (starEach [] X.env))) _ _ _
  refine Calls.spliced_cons (thn (he.run [(u, PySem.G9X.mwO initId a)] s2 σ H _ I2 want) fun v s3 hh => ?_)
  obtain ⟨x, H1, I3, r, e1, q1⟩ := hh
  refine Calls.spliced_nil ⟨ClX.pin_at I3, ?_⟩
  refine init_bound T I3 e1 (ClX.pin_at I3) ?_ fun s4 I4 => ⟨σ, H1, ClX.unpin I4, q1⟩
  show 1 ≤ sizeLine
  rw [sizeLine_eq]
  omega
end
end G9

namespace G9
open PySem PySem.Spec PyProof.Rows L2
/-! ### the __init__ of an own exception class: super().__init__(text); self.f = v -/
/-- the data of a value that is no object -/
def flatD : V → Option PyData
  | .non => some .none
  | .bl b => some (.bool b)
  | .int i => some (.int i)
  | .str s => some (.str s)
  | _ => none
def keyD : Key → PyData
  | .inl i => .int i
  | .inr s => .str s
/-- a dict of values that are no objects, told as data -/
def FlatD : List (Key × V) → List (PyData × PyData) → Prop := Paired fun kv q => keyD kv.1 = q.1 ∧ flatD kv.2 = some q.2
theorem flat_reads {h : Heap} {v : V} {u : Value} {d : PyData} (e : flatD v = some d) (r : RelV v u) : Reads h u d [] := by
  cases v with
  | non => cases e; cases r; exact .none
  | bl b => cases e; cases r; exact .bool b
  | int i => cases e; obtain ⟨t, rfl⟩ := r; exact .int i t
  | str x => cases e; obtain ⟨t, rfl⟩ := r; exact .str x t
  | _ => cases e
theorem key_reads {P : Program} {w : World} {h : Heap} {k : Key} {u : Value} (e : (mixKind P w).is k u = true) : Reads h u (keyD k) [] := by
  rcases keyIs_shape e with ⟨i, t, rfl, rfl⟩ | ⟨x, t, rfl, rfl⟩
  · exact .int i t
  · exact .str x t
theorem flat_rows {P : Program} {w : World} {h : Heap} : ∀ {es : List DictEntry} {kvs : List (Key × Value)} {lvs : List (Key × V)} {ds : List (PyData × PyData)}, Pairs (mixKind P w) es kvs → KV lvs kvs → FlatD lvs ds → ReadsAll h (es.map (·.key)) (ds.map (·.1)) [] ∧ ReadsAll h (es.map (·.val)) (ds.map (·.2)) []
  | [], [], [], [], _, _, _ => ⟨.nil, .nil⟩
  | e :: es, kv :: kvs, lv :: lvs, d :: ds, .cons h1 h2 t, .cons a r, .cons f g => by
    obtain ⟨i1, i2⟩ := flat_rows (h := h) t r g
    refine ⟨?_, ?_⟩
    · have x : Reads h e.key d.1 [] := by
        rw [← f.1]
        exact a.1 ▸ key_reads h1
      exact .cons x i1
    · have x : Reads h e.val d.2 [] := flat_reads f.2 (by rw [h2]; exact a.2)
      exact .cons x i2
  | [], _ :: _, _, _, h, _, _ => nomatch h
  | _ :: _, [], _, _, h, _, _ => nomatch h
  | [], [], _ :: _, _, _, h, _ => nomatch h
  | _ :: _, _ :: _, [], _, _, h, _ => nomatch h
  | [], [], [], _ :: _, _, _, h => nomatch h
  | _ :: _, _ :: _, _ :: _, [], _, _, h => nomatch h
theorem dict_reads {X : Cx} {pins : List (Addr × Obj)} {σ : L2.St} {H : Hp} {s : Shared} {p : Addr} {kvs : List (Key × V)} {ds : List (PyData × PyData)} (I : Inv X pins σ H s) (e : H p = some (.dK kvs)) (f : FlatD kvs ds) : ∃ as, Reads s.heap (.ref p) (.dict ds) as ∧ sysModules ∉ as := by
  obtain ⟨_, lo, vs, rel, o, es, ep, ho, hc, hd, hk, hp, hn⟩ := dk_of I.hok e
  obtain ⟨r1, r2⟩ := flat_rows (h := s.heap) hp rel f
  refine ⟨p :: [] ++ [], .dict ho hc.1 hd r1 r2, fun m => ?_⟩
  have m : sysModules = p := by simpa using m
  rw [m, beq_self_eq_true] at lo
  cases lo
/-- what can be shown by !r, in a text of moderate size -/
def Shw (K : PySem.W.Frag) (H : Hp) (v : V) : Prop :=
  (∃ i : Int, v = .int i ∧ i.natAbs.log2 < 1920) ∨ (∃ y : Str, v = .str y ∧ (reprText y).length + 1000 ≤ sizeLine) ∨ v = .non ∨ (∃ b, v = .bl b) ∨
    (∃ (p : Addr) (d : PyData), v = .ref p ∧ Dp K H (.ref p) d ∧ d.showable = true ∧ d.hasDict = false ∧ d.depth ≤ 60 ∧ d.shown.length + 1000 ≤ sizeLine) ∨
    ∃ (p : Addr) (kvs : List (Key × V)) (ds : List (PyData × PyData)), v = .ref p ∧ H p = some (.dK kvs) ∧ FlatD kvs ds ∧ (PyData.dict ds).showable = true ∧ (PyData.dict ds).depth ≤ 60 ∧ (PyData.dict ds).shown.length + 1000 ≤ sizeLine
def spInit (C : Addr) (f : Str) (K : PySem.W.Frag) : Sp := fun vs H Q _ => ∃ a v, vs = [.ref a, v] ∧ H a = some (exo a C none) ∧ Shw K H v ∧ ∀ dx, H dx = none → dx ≠ a → Q .non (upd (upd H dx (exd dx [(f, v)])) a (exo a C (some dx)))
section
variable {X : Cx}
/-- {x!r} in an f-string, some text -/
def tShw (K : PySem.W.Frag) (te : TE) : TE := fun σ H Q => te σ H fun x H1 => Shw K H1 x ∧ ∀ y : Str, y.length + 1000 ≤ sizeLine → Q (.str y) H1
theorem int_text_small {i : Int} (h : i.natAbs.log2 < 1920) : (Str.ofString (toString i)).length + 1000 ≤ sizeLine := by
  have e := int_text_length_le (k := 1920) (by decide) h
  rw [PySem.ofString_length, sizeLine_eq]
  omega
theorem pe_shw {k : Nat} (room : RoomG k X.A) {e : Expr} {te : TE} {pos : Pos} (he : PE X e te) : PE X (.FormattedValue e 114 none pos) (tShw X.K te) := by
  refine ⟨fun pins s σ H Q I h => ?_⟩
  refine wpAny_FormattedValue_repr (thn (he.run pins s σ H _ I h) fun v s1 hv => ?_)
  obtain ⟨x, H1, I1, r1, sh, q⟩ := hv
  have fin : ∀ {y : Str} {t t' : Tok} {s2 : Shared}, y.length + 1000 ≤ sizeLine → Inv X pins σ H1 s2 → wpAny (model X.prog X.w) X.A (formatField (.str y t) Str.empty) (EP X pins σ Q) X.xe s2 := fun {y t t' s2} hy I2 =>
    wpAny_formatField_str ⟨.str y, H1, I2, ⟨_, rfl⟩, q y hy⟩ ⟨.str y, H1, I2.tok _, ⟨_, rfl⟩, q y hy⟩ (by omega)
  rcases sh with ⟨i, rfl, hz⟩ | ⟨y, rfl, hz⟩ | rfl | ⟨b, rfl⟩ | ⟨p, d, rfl, hd, a1, a2, a3, a4⟩ | ⟨p, kvs, ds, rfl, e1, f1, a1, a3, a4⟩
  · obtain ⟨t, rfl⟩ := r1
    exact pyReprObj_int hz (fin (t' := t) (int_text_small hz) (I1.tok _))
  · obtain ⟨t, rfl⟩ := r1
    exact pyReprObj_str (fin (t' := t) hz (I1.tok _)) (by omega)
  · obtain rfl : v = Value.none := r1
    exact pyReprObj_none (fin (t' := s1.toks) (by rw [sizeLine_eq]; decide) (I1.tok _))
  · obtain rfl : v = Value.bool b := r1
    refine pyReprObj_bool (fin (t' := s1.toks) ?_ (I1.tok _))
    rw [sizeLine_eq]
    cases b <;> decide
  · obtain ⟨as, rd⟩ := Dp.reads I1 d _ _ hd r1
    obtain rfl : v = Value.ref p := r1
    have un := room.r.units
    exact pyReprObj_of_reads rd a1 (fun z => by rw [a2] at z; cases z) room.g (by omega) (fun _ _ z => z) (fun h' t tk k => fin (t' := tk) a4 (I1.kept k)) (by omega)
  · obtain ⟨as, rd, no⟩ := dict_reads I1 e1 f1
    obtain rfl : v = Value.ref p := r1
    have un := room.r.units
    exact pyReprObj_of_reads rd a1 (fun _ => no) room.g (by omega) (fun _ _ z => z) (fun h' t tk k => fin (t' := tk) a4 (I1.kept k)) (by omega)
end
/-- the whole def -/
theorem init_def {B newId initId : String} {tl : List Value} {P : Program} {w : World} {K : PySem.W.Frag} {mg : Str → Option Value} {base : Heap} {k : Nat} {qual me pn fn : Str} {st : Stmt} {f C : Addr} {fd : FuncData} {N : List Str} {ej : Expr} {p0 p1 p2 p7 p8 p9 p10 p11 p12 : Pos} {te : TE}
    (T : OexB B newId initId tl K C) (F : SupFn P K mg qual me st f C fd) (S : SupScope N [me, pn] me (defScope st))
    (hbody : defBody st = [.Expr (.Call (.Attribute (.Call (.Name "super" p0) [] [] p1) "__init__" p2) [ej] [] p7) p8, .Assign [.Attribute (.Name me p9) fn p10] (.Name pn p11) p12])
    (hno : PySem.W.findIn K (.ref C) fn = some none)
    (dbg : (me == ("__debug__" : Str)) = false ∧ (me == ("__classdict__" : Str)) = false ∧ (pn == ("__debug__" : Str)) = false ∧ (pn == ("__classdict__" : Str)) = false)
    (hev : ∀ X : Cx, ∃ pl : Sem Bool, eval (.Call (.Attribute (.Call (.Name "super" p0) [] [] p1) "__init__" p2) [ej] [] p7) X.env = (do
      let ov ← attributeBase (.Call (.Name "super" p0) [] [] p1) "__init__" X.env (eval (.Call (.Name "super" p0) [] [] p1) X.env)
      standAt p2.atName
      let (f, first) ← holding [ov] (getMethod ov "__init__" pl)
      callWith p7 f first (backTo p7 (starEach [ej] X.env)) [])) (hst : ∀ X : Cx, starEach [ej] X.env = (false, eval ej X.env) :: starEach [] X.env)
    (hsw : ∀ X : Cx, swapsWith (.Name pn p11) (some (.Attribute (.Name me p9) fn p10)) p12.line X.env = pure false)
    (hj : ∀ X : Cx, X.K = K → RoomG k X.A → X.N[1]? = some pn → Vis X.env.scope pn → PE X ej te)
    (ht : ∀ (σ : L2.St) (H : Hp) (Q : VK) (v : V), σ[1]? = some (some v) → Shw K H v → (∀ y : Str, Q (.str y) H) → te σ H Q) :
    FnG P w K mg base CX0 (k + 1) f fd [me, pn] (spInit C fn K) := by
  obtain ⟨oc, kV, doc, pm, ct, ccl, cl, od, an, cdd, cld, osl, ccs, csl, cda, cc, vs, file, tf, rfl, lk, cd, hcode, hvs, hfile, hcell⟩ := F.ex
  constructor
  · rintro _ H Q E ⟨a, v, rfl, _⟩
    rfl
  intro A fs s H as us xs Q E room env bind rel want
  obtain ⟨a, v, rfl, ea, sh, fin⟩ := want
  have inS : K.In s.heap := env.mod.kin.keeps fun b o z => (env.bs b o z).1
  have noLim : s.heap.NoLimit := env.mod.nolimit.keeps fun b o z => (env.bs b o z).1
  refine ks_codeAny_call_defAt room.r.depth (inS _ _ lk) rfl noLim (PySem.W.codeRec_of inS cd) rfl bind S.nocell (fun x hx => S.loc x.1 (List.of_mem_zip hx).1) (fun h1 hns hk => ?_) S.co S.gen S.kind
  have J := inv_startS (CX := CX0) (qual := qual) (f := f) (cdv := .ref cda) (E := E) (C := C) (tk := s.toks + ([me, pn].zip us).length) S room.r.hd env (by rfl) rel ⟨cl, cld, csl, hcell⟩ hns hk
  have n0 : N[0]? = some me := by
    have z : (N.take 2)[0]? = some me := by rw [show N.take 2 = [me, pn] from S.pre]; rfl
    rwa [List.getElem?_take_of_lt (by omega)] at z
  have n1 : N[1]? = some pn := by
    have z : (N.take 2)[1]? = some pn := by rw [show N.take 2 = [me, pn] from S.pre]; rfl
    rwa [List.getElem?_take_of_lt (by omega)] at z
  have room' : RoomG k (cxS CX0 P w K mg base N qual (defScope st) f (.ref cda) cc A fs s H E).A := ⟨room.r.deeper _, room.g⟩
  obtain ⟨pl, hpl⟩ := hev (cxS CX0 P w K mg base N qual (defScope st) f (.ref cda) cc A fs s H E)
  have loc1 := S.loc pn (by simp)
  have loc0 := S.loc me (by simp)
  show _root_.PySem.wpAt _ _ _ (execs (defBody st) _) _ _ _
  rw [hbody]
  refine ks_wpAt_execs_cons (ks_wpAt_mono (sup_stmt (X := cxS CX0 P w K mg base N qual (defScope st) f (.ref cda) cc A fs s H E) (D := { nx := fun σ G => σ = L2.start N [.ref a, v] ∧ G = H, rt := fun _ _ => False }) T J ea lk F.ar hcode hvs hfile hcell F.top F.sup rfl rfl rfl S.sup S.cls loc0 (i := 0) n0 rfl
    (hj _ rfl room' n1 (Or.inl loc1)) hpl (hst _) (ht _ _ _ v rfl sh fun y => ⟨ea, rfl, rfl⟩)) (fun fl s1 h1 => ?_) fun e s1 z => z)
  cases fl with
  | brk => exact h1.elim fun _ h => h.elim fun _ h => h.2.elim
  | cont => exact h1.elim fun _ h => h.elim fun _ h => h.2.elim
  | ret u => exact h1.elim fun _ h => h.elim fun _ h => h.elim fun _ h => h.2.2.elim
  | next =>
    obtain ⟨σ1, G1, J1, e1, e2⟩ := h1
    rw [e1, e2] at J1
    have b := ps_put (B := B) (newId := newId) (initId := initId) (tl := tl) (f := fn) (p' := p10) (pos := p12) (pe_var (X := cxS CX0 P w K mg base N qual (defScope st) f (.ref cda) cc A fs s H E) (i := 0) (x := me) (pos := p9) n0 (Or.inl loc0) dbg.1 dbg.2.1)
      (pe_var (X := cxS CX0 P w K mg base N qual (defScope st) f (.ref cda) cc A fs s H E) (i := 1) (x := pn) (pos := p11) n1 (Or.inl loc1) dbg.2.2.1 dbg.2.2.2) (hsw _)
    refine ks_wpAt_execs_cons (wpAt_of_wpAny (wpAny_mono (b.run [] s1 _ H { nx := fun σ G => Q .non G, rt := fun _ _ => False } J1 ?_) (fun fl s2 h2 => ?_) fun e s2 z => z))
    · exact ⟨v, rfl, _, rfl, a, C, rfl, T, hno, ea, fun dx n ne => fin dx n ne⟩
    · cases fl with
      | brk => exact h2.elim fun _ h => h.elim fun _ h => h.2.elim
      | cont => exact h2.elim fun _ h => h.elim fun _ h => h.2.elim
      | ret u => exact h2.elim fun _ h => h.elim fun _ h => h.elim fun _ h => h.2.2.elim
      | next =>
        obtain ⟨_, G, J2, q⟩ := h2
        refine wpAt_of_wpAny (wpAny_execs_nil ?_)
        exact ⟨.non, G, J2.os, J2.bare, J2.base, J2.hok, rfl, q⟩
end G9

namespace G9
open PySem PySem.Spec PyProof.Rows L2
theorem RoomG.make {k : Nat} {A : Around} (r : RoomG (k + 1) A) (C : Addr) (us : List Value) (kw : List (Str × Value)) : RoomG k (A.under (.builtin "type.__call__" ⟨.ref C :: us, kw⟩)) := by
  refine ⟨r.r.make C us kw, ?_⟩
  have g := r.g
  obtain ⟨h, d, f, gd, u⟩ := A
  dsimp only at g
  subst g
  rfl
theorem upd_upd {H : Hp} {a b : Addr} {o1 o2 o3 : HO} : upd (upd (upd H a o1) b o2) a o3 = upd (upd H b o2) a o3 := by
  funext c
  by_cases h : c = a
  · rw [h, upd_same, upd_same]
  · rw [upd_ne h, upd_ne h]
    by_cases hb : c = b
    · rw [hb, upd_same, upd_same]
    · rw [upd_ne hb, upd_ne hb, upd_ne h]
section
variable {X : Cx} {B newId initId : String} {tl : List Value} {C fI : Addr} {k : Nat} {fd : FuncData} {me pn f x : Str} {e : Expr} {te : TE} {p pos : Pos}
/-- C(e), C an own class with an own __init__: the object, tracked -/
theorem pe_makeI (T : OexB B newId initId tl X.K C) (iC : PySem.W.findIn X.K (.ref C) "__init__" = some (some (.ref fI))) (tI : PySem.W.typeIn X.K (.ref fI) = some (.type "function"))
    (F : FnG X.prog X.w X.K X.mg X.base CX0 k fI fd [me, pn] (spInit C f X.K)) (room : RoomG (k + 1) X.A) (hb : Binds X.K fd [me, pn] []) (hg : Gl X x) (hm : X.mg x = some (.ref C)) (he : PE X e te)
    (hs : starEach [e] X.env = (false, eval e X.env) :: starEach [] X.env := by rfl) (hdb : (x == ("__debug__" : Str)) = false := by decide) :
    PE X (.Call (.Name x p) [e] [] pos) (fun σ H Q => te σ H fun v H1 => ∀ a, H1 a = none → Shw X.K (upd H1 a (exo a C none)) v ∧ ∀ dx, H1 dx = none → dx ≠ a → Q (.ref a) (upd (upd H1 dx (exd dx [(f, v)])) a (exo a C (some dx)))) := by
  refine ⟨fun pins s σ H Q I h => ?_⟩
  obtain ⟨nm, q, N, bs, bm, sn, sub, ab, col, dd, k0, k1, k2, k3, k5, hC, hbm⟩ := T.cls
  refine wpAny_Call_Name_kw (ld_glob I hg hm ?_ hdb)
  refine PySem.W.callWith_K (h₀ := X.base) I.ok.mod.kin T.kC ?_ hs (by rfl)
  rw [hs]
  show wpAny _ _ (spliced ((false, eval e X.env) :: backTo pos (starEach [] X.env))) _ _ s
  refine Calls.spliced_cons (thn (he.run pins s σ H _ I h) fun u s1 ⟨v, H1, I1, r1, q1⟩ => ?_)
  refine Calls.spliced_nil ⟨I1.kIn, ?_⟩
  show wpAny _ _ (call (.ref C) [u]) _ _ _
  obtain ⟨hp, g, dr, tk, os⟩ := s1
  have large : hp.objs.size ≤ hp.objs.size + 1 := Nat.le_succ _
  have new : H1 (hp.objs.size + 1) = none := I1.hok.fresh large
  obtain ⟨sh, fin⟩ := q1 _ new
  have kk : ∀ b o, hp.get? b = some o → ((hp.push (PySem.W.kdv_tup [u])).push (PySem.HandSPX.excO C hp.objs.size)).get? b = some o := fun b o e => Heap.get?_push_of_some _ (Heap.get?_push_of_some _ e)
  have here : ((hp.push (PySem.W.kdv_tup [u])).push (PySem.HandSPX.excO C hp.objs.size)).get? (hp.objs.size + 1) = some (PySem.HandSPX.excO C hp.objs.size) := by heap_get
  have I2 : Inv X pins σ (upd H1 (hp.objs.size + 1) (exo (hp.objs.size + 1) C none)) ⟨(hp.push (PySem.W.kdv_tup [u])).push (PySem.HandSPX.excO C hp.objs.size), g, dr, tk, os⟩ :=
    I1.laid (t' := tk) (a := hp.objs.size + 1) (o := exo (hp.objs.size + 1) C none) (h' := (hp.push (PySem.W.kdv_tup [u])).push (PySem.HandSPX.excO C hp.objs.size)) kk large (exo_ok here)
  have want : spInit C f X.K [.ref (hp.objs.size + 1), v] (upd H1 (hp.objs.size + 1) (exo (hp.objs.size + 1) C none)) (fun r G => r = .non ∧ Q (.ref (hp.objs.size + 1)) G) fun _ _ _ => False := by
    refine ⟨_, v, rfl, upd_same, sh, fun dx n ne => ⟨rfl, ?_⟩⟩
    rw [upd_upd]
    refine fin dx ?_ ne
    rwa [upd_ne ne] at n
  refine wpAny_call (PySem.G9X.makeX T.T hbm (I1.kIn _ _ hC) (PySem.W.looks_findIn I1.kIn iC) (fun self => PySem.W.bind_fn I1.kIn self tI) (by show 1 ≤ sizeLine; rw [sizeLine_eq]; omega)
    (codeAny_mono (F.goes _ X.stack _ _ ⟨[Value.ref (hp.objs.size + 1), u], []⟩ [Value.ref (hp.objs.size + 1), u] [V.ref (hp.objs.size + 1), v] _ (fun _ _ _ => False) (room.make C [u] []) (I2.env0.make C [u] []) (hb _ [Value.ref (hp.objs.size + 1), u] I2.kIn rfl) (.cons rfl (.cons r1 .nil)) want) fun r s' hq' => ?_))
  cases r with
  | error er => exact absurd hq' (by intro z; exact z)
  | ok fl =>
    cases fl with
    | ret w =>
      obtain ⟨rv, H2, I3, rw', e1, q2⟩ := I2.after hq'
      subst e1
      exact ⟨rw', .ref (hp.objs.size + 1), H2, I3, rfl, q2⟩
    | next => exact False.elim hq'
    | brk => exact False.elim hq'
    | cont => exact False.elim hq'
/-- the same, raised at once -/
theorem pmk_makeI (T : OexB B newId initId tl X.K C) (iC : PySem.W.findIn X.K (.ref C) "__init__" = some (some (.ref fI))) (tI : PySem.W.typeIn X.K (.ref fI) = some (.type "function"))
    (F : FnG X.prog X.w X.K X.mg X.base CX0 k fI fd [me, pn] (spInit C f X.K)) (room : RoomG (k + 1) X.A) (hb : Binds X.K fd [me, pn] []) (hg : Gl X x) (hm : X.mg x = some (.ref C)) (he : PE X e te)
    (hs : starEach [e] X.env = (false, eval e X.env) :: starEach [] X.env := by rfl) (hdb : (x == ("__debug__" : Str)) = false := by decide) :
    PMk X (.Call (.Name x p) [e] [] pos) (fun σ H Q => te σ H fun v H1 => (∀ a, H1 a = none → Shw X.K (upd H1 a (exo a C none)) v) ∧ ∀ d, H1 d = none → Q (.ref C) (some d) (upd H1 d (.xd [(f, v)]))) := by
  intro pins s σ H Q I h
  obtain ⟨nm, q, N, bs, bm, sn, sub, ab, col, dd, k0, k1, k2, k3, k5, hC, hbm⟩ := T.cls
  refine wpAny_Call_Name_kw (ld_glob I hg hm ?_ hdb)
  refine PySem.W.callWith_K (h₀ := X.base) I.ok.mod.kin T.kC ?_ hs (by rfl)
  rw [hs]
  show wpAny _ _ (spliced ((false, eval e X.env) :: backTo pos (starEach [] X.env))) _ _ s
  refine Calls.spliced_cons (thn (he.run pins s σ H _ I h) fun u s1 ⟨v, H1, I1, r1, q1⟩ => ?_)
  refine Calls.spliced_nil ⟨I1.kIn, ?_⟩
  show wpAny _ _ (call (.ref C) [u]) _ _ _
  obtain ⟨hp, g, dr, tk, os⟩ := s1
  have large : hp.objs.size ≤ hp.objs.size + 1 := Nat.le_succ _
  have new : H1 (hp.objs.size + 1) = none := I1.hok.fresh large
  obtain ⟨sh, fin⟩ := q1
  have kk : ∀ b o, hp.get? b = some o → ((hp.push (PySem.W.kdv_tup [u])).push (PySem.HandSPX.excO C hp.objs.size)).get? b = some o := fun b o e => Heap.get?_push_of_some _ (Heap.get?_push_of_some _ e)
  have here : ((hp.push (PySem.W.kdv_tup [u])).push (PySem.HandSPX.excO C hp.objs.size)).get? (hp.objs.size + 1) = some (PySem.HandSPX.excO C hp.objs.size) := by heap_get
  have I2 : Inv X pins σ (upd H1 (hp.objs.size + 1) (exo (hp.objs.size + 1) C none)) ⟨(hp.push (PySem.W.kdv_tup [u])).push (PySem.HandSPX.excO C hp.objs.size), g, dr, tk, os⟩ :=
    I1.laid (t' := tk) (a := hp.objs.size + 1) (o := exo (hp.objs.size + 1) C none) (h' := (hp.push (PySem.W.kdv_tup [u])).push (PySem.HandSPX.excO C hp.objs.size)) kk large (exo_ok here)
  have want : spInit C f X.K [.ref (hp.objs.size + 1), v] (upd H1 (hp.objs.size + 1) (exo (hp.objs.size + 1) C none)) (fun r G => r = .non ∧ ∃ dx, H1 dx = none ∧ dx ≠ hp.objs.size + 1 ∧ G = upd (upd (upd H1 (hp.objs.size + 1) (exo (hp.objs.size + 1) C none)) dx (exd dx [(f, v)])) (hp.objs.size + 1) (exo (hp.objs.size + 1) C (some dx))) fun _ _ _ => False := by
    refine ⟨_, v, rfl, upd_same, sh _ new, fun dx n ne => ⟨rfl, dx, ?_, ne, rfl⟩⟩
    rwa [upd_ne ne] at n
  refine wpAny_call (PySem.G9X.makeX T.T hbm (I1.kIn _ _ hC) (PySem.W.looks_findIn I1.kIn iC) (fun self => PySem.W.bind_fn I1.kIn self tI) (by show 1 ≤ sizeLine; rw [sizeLine_eq]; omega)
    (codeAny_mono (F.goes _ X.stack _ _ ⟨[Value.ref (hp.objs.size + 1), u], []⟩ [Value.ref (hp.objs.size + 1), u] [V.ref (hp.objs.size + 1), v] _ (fun _ _ _ => False) (room.make C [u] []) (I2.env0.make C [u] []) (hb _ [Value.ref (hp.objs.size + 1), u] I2.kIn rfl) (.cons rfl (.cons r1 .nil)) want) fun r s' hq' => ?_))
  cases r with
  | error er => exact absurd hq' (by intro z; exact z)
  | ok fl =>
    cases fl with
    | ret w =>
      obtain ⟨rv, H2, os2, bare2, un2, hok2, rw', e1, dx, n, ne, eH⟩ := hq'
      subst e1
      obtain ⟨h2, g2, d2, t2, os'⟩ := s'
      refine ⟨rw', mk_end (raises_own T.exC T.tyC) I1 large kk un2 hok2 os2 bare2 (d := dx) (fs := [(f, v)]) (by rw [eH, upd_same]) (by rw [eH, upd_ne ne, upd_same]) n ?_⟩
      have same : upd (del H2 (hp.objs.size + 1)) dx (.xd [(f, v)]) = upd H1 dx (.xd [(f, v)]) := by
        funext b
        by_cases hb : b = dx
        · rw [hb, upd_same, upd_same]
        · rw [upd_ne hb, upd_ne hb]
          by_cases ha : b = hp.objs.size + 1
          · rw [ha, del_same, new]
          · rw [del_ne ha, eH, upd_ne ha, upd_ne hb, upd_ne ha]
      rw [same]
      exact fin dx n
    | next => exact False.elim hq'
    | brk => exact False.elim hq'
    | cont => exact False.elim hq'

/-- C(e), C an own class without own __init__: the object, tracked -/
theorem pe_make0 {bmB : List Value} {iI : String} (F : ExcBaseFacts B newId iI bmB) (q : PySem.W.excIn X.K C bmB newId = true) (gC : X.mg x = some (.ref C)) (kC : PySem.W.keepIn X.K (.ref C) = true) (hg : Gl X x) (he : PE X e te)
    (hs : starEach [e] X.env = (false, eval e X.env) :: starEach [] X.env := by rfl) (hdb : (x == ("__debug__" : Str)) = false := by decide) :
    PE X (.Call (.Name x p) [e] [] pos) (fun σ H Q => te σ H fun _ H1 => ∀ a, H1 a = none → Q (.ref a) (upd H1 a (exo a C none))) := by
  refine ⟨fun pins s σ H Q I h => ?_⟩
  refine wpAny_Call_Name_kw (ld_glob I hg gC ?_ hdb)
  refine PySem.W.callWith_K (h₀ := X.base) I.ok.mod.kin kC ?_ hs (by rfl)
  rw [hs]
  show wpAny _ _ (spliced ((false, eval e X.env) :: backTo pos (starEach [] X.env))) _ _ s
  refine Calls.spliced_cons (thn (he.run pins s σ H _ I h) fun u s1 ⟨v, H1, I1, r1, q1⟩ => ?_)
  refine Calls.spliced_nil ⟨I1.kIn, ?_⟩
  show wpAny _ _ (call (.ref C) [u]) _ _ _
  obtain ⟨bm, N, nm, qn, bs, hdct, sn, sub, ab, col, dd, k0, k1, k2, k3, k5, mN, hC, hN, hni, T⟩ := exc_obj I1.kIn q
  refine wpAny_call_exc_subT F T hC hN hni (fun h' a hm => ?_) (by show 1 ≤ sizeLine; rw [sizeLine_eq]; omega)
  have hn : H1 a = none := I1.hok.gone hm.new
  obtain ⟨t, ht, _, _⟩ := hm.there
  exact ⟨.ref a, upd H1 a (exo a C none), I1.laidN hm.keeps hm.new hn (exo_ok ht), rfl, q1 a hn⟩
/-- the same, raised at once -/
theorem pmk_make0 {bmB : List Value} {iI : String} (F : ExcBaseFacts B newId iI bmB) (q : PySem.W.excIn X.K C bmB newId = true) (gC : X.mg x = some (.ref C)) (kC : PySem.W.keepIn X.K (.ref C) = true) (r : Raises X (.ref C)) (hg : Gl X x) (he : PE X e te)
    (hs : starEach [e] X.env = (false, eval e X.env) :: starEach [] X.env := by rfl) (hdb : (x == ("__debug__" : Str)) = false := by decide) :
    PMk X (.Call (.Name x p) [e] [] pos) (fun σ H Q => te σ H fun _ H1 => Q (.ref C) none H1) := by
  intro pins s σ H Q I h
  refine wpAny_Call_Name_kw (ld_glob I hg gC ?_ hdb)
  refine PySem.W.callWith_K (h₀ := X.base) I.ok.mod.kin kC ?_ hs (by rfl)
  rw [hs]
  show wpAny _ _ (spliced ((false, eval e X.env) :: backTo pos (starEach [] X.env))) _ _ s
  refine Calls.spliced_cons (thn (he.run pins s σ H _ I h) fun u s1 ⟨v, H1, I1, r1, q1⟩ => ?_)
  refine Calls.spliced_nil ⟨I1.kIn, ?_⟩
  show wpAny _ _ (call (.ref C) [u]) _ _ _
  obtain ⟨bm, N, nm, qn, bs, hdct, sn, sub, ab, col, dd, k0, k1, k2, k3, k5, mN, hC, hN, hni, T⟩ := exc_obj I1.kIn q
  refine wpAny_call_exc_subT F T hC hN hni (fun h' a hm => ?_) (by show 1 ≤ sizeLine; rw [sizeLine_eq]; omega)
  exact mk_of I1 hm r q1 (I1.hok.gone hm.new)
end
end G9

namespace G9
open PySem PySem.Spec PyProof.Rows L2
/-! ### exceptions as values: what is told of them -/
/-- at a: an exception of the class cls, its dict od; raised or not -/
def exv (a : Addr) (cls : Value) (od : Option Addr) : HO := .ext fun h => ∃ (oe : Obj) (vs : Array Value), h.get? a = some oe ∧ Zc cls od oe ∧ oe.data = .fields vs
def XIn (H : Hp) (a C : Addr) (od : Option Addr) : Prop := ∃ φ, H a = some (.ext φ) ∧ ∀ h, φ h → ∃ (oe : Obj) (vs : Array Value), h.get? a = some oe ∧ Zc (.ref C) od oe ∧ oe.data = .fields vs
def XD (H : Hp) (d : Addr) (fs : List (Str × V)) : Prop := H d = some (exd d fs) ∨ H d = some (.xd fs)
/-- the exception, and its dict if it has one -/
def XAt (H : Hp) (a C : Addr) (od : Option Addr) (fs : List (Str × V)) : Prop := XIn H a C od ∧ (match od with | none => fs = [] | some d => XD H d fs)
theorem xin_exo {H : Hp} {a C : Addr} {od : Option Addr} (h : H a = some (exo a C od)) : XIn H a C od := ⟨_, h, fun _ ⟨_, e⟩ => ⟨_, _, e, ⟨rfl, rfl⟩, rfl⟩⟩
theorem xin_exv {H : Hp} {a C : Addr} {od : Option Addr} (h : H a = some (exv a (.ref C) od)) : XIn H a C od := ⟨_, h, fun _ e => e⟩
theorem xat_exo0 {H : Hp} {a C : Addr} (h : H a = some (exo a C none)) : XAt H a C none [] := ⟨xin_exo h, rfl⟩
theorem xat_exo {H : Hp} {a C d : Addr} {fs : List (Str × V)} (h : H a = some (exo a C (some d))) (hd : H d = some (exd d fs)) : XAt H a C (some d) fs := ⟨xin_exo h, Or.inl hd⟩
theorem xin_at {P : Program} {w : World} {H : Hp} {h : Heap} {a C : Addr} {od : Option Addr} (x : XIn H a C od) (ok : HOk P w H h) : ∃ (oe : Obj) (vs : Array Value), h.get? a = some oe ∧ Zc (.ref C) od oe ∧ oe.data = .fields vs := by
  obtain ⟨φ, e, k⟩ := x
  have y : ObjOk P w H h a (.ext φ) := ok a _ e
  exact k h y.1
theorem xd_at {P : Program} {w : World} {H : Hp} {h : Heap} {d : Addr} {fs : List (Str × V)} (x : XD H d fs) (ok : HOk P w H h) : ∃ mA, h.Ns1 d mA ∧ ∀ f, RelO (fs.lookup f) (mA f) := by
  rcases x with e | e
  · exact exd_at ok e
  · exact ok d _ e
theorem xat_inst {P : Program} {w : World} {H : Hp} {h : Heap} {a C : Addr} {od : Option Addr} {fs : List (Str × V)} (x : XAt H a C od fs) (ok : HOk P w H h) : ∃ (oe : Obj) (odo : Option Obj), PySem.W.InstAt h a oe C odo := by
  obtain ⟨x1, x2⟩ := x
  obtain ⟨oe, vs, e, z, dt⟩ := xin_at x1 ok
  have no : PySem.W.notCls oe = true := by unfold PySem.W.notCls; rw [dt] <;> rfl
  cases od with
  | none => exact ⟨oe, none, e, z.1, no, by rw [z.2]; trivial⟩
  | some d =>
    obtain ⟨mA, ⟨oD, es, ep, eD, r⟩, _⟩ := xd_at x2 ok
    exact ⟨oe, some oD, e, z.1, no, by rw [z.2]; exact eD⟩
theorem exv_ok {P : Program} {w : World} {H : Hp} {h : Heap} {a : Addr} {cls : Value} {od : Option Addr} {oe : Obj} {vs : Array Value} (e : h.get? a = some oe) (z : Zc cls od oe) (d : oe.data = .fields vs) : ObjOk P w H h a (exv a cls od) :=
  ⟨⟨oe, vs, e, z, d⟩, ⟨oe, e⟩, fun _ _ ⟨o, v, q, r⟩ k => ⟨o, v, k o q, r⟩⟩

/-! ### isinstance -/
def rIsX (K : PySem.W.Frag) : List V → Hp → VK → Prop := fun xs H Q => ∃ (a C : Addr) (od : Option Addr) (fs : List (Str × V)) (c : V) (cv : Value) (b : Bool), xs = [.ref a, c] ∧ ExcC K C ∧ XAt H a C od fs ∧ (∀ u, RelV c u → u = cv) ∧ PySem.W.kitOne K (.ref C) cv = some b ∧ Q (.bl b) H
theorem call_isX {X : Cx} : CallR X (.builtin "isinstance") (rIsX X.K) := by
  intro pins s σ H xs us Q I r h
  obtain ⟨a, C, od, fs, c, cv, b, rfl, T, x, hc, e, q⟩ := h
  cases r with
  | cons ra r2 =>
    cases r2 with
    | cons rc r3 =>
      cases r3
      cases ra
      have ec := hc _ rc
      subst ec
      obtain ⟨oe, odo, J⟩ := xat_inst x I.hok
      obtain ⟨cd, hcl, _⟩ := PySem.W.any_some T.hd
      exact PySem.W.kia_one (PySem.W.kitx_exc (by rw [hcl] <;> rfl) T.hg T.hk T.hs T.ha T.hn T.ht T.hm) I.kIn J e (fun z => nomatch z) fun tk => ⟨.bl b, H, I.kept (t' := tk) fun _ _ z => z, rfl, q⟩

/-! ### e.f -/
def tXat (K : PySem.W.Frag) (n : Str) (te : TE) : TE := fun σ H Q => te σ H fun x H1 => ∃ (a C d : Addr) (fs : List (Str × V)) (v : V), x = .ref a ∧ XAt H1 a C (some d) fs ∧ XfC K C ∧ PySem.W.findIn K (.ref C) n = some none ∧ fs.lookup n = some v ∧ Q v H1
theorem pe_xat {X : Cx} {e : Expr} {te : TE} {pos : Pos} {n : Str} (he : PE X e te) (hb : attributeBase e n X.env (eval e X.env) = eval e X.env := by rfl) : PE X (.Attribute e n pos) (tXat X.K n te) := by
  refine ⟨fun pins s σ H Q I h => ?_⟩
  refine attr_of hb (thn (he.run pins s σ H _ I h) fun u s1 hh => ?_)
  obtain ⟨x, H1, I1, rx, a, C, d, fs, v, ex, ⟨x1, x2⟩, T, hno, l, q⟩ := hh
  subst ex
  obtain rfl : u = Value.ref a := rx
  obtain ⟨oe, vs, e0, z, dt⟩ := xin_at x1 I1.hok
  obtain ⟨mA, hns, hr⟩ := xd_at x2 I1.hok
  obtain ⟨od, ho, hl⟩ := lookIn_ns hns
  obtain ⟨u, hu, ru⟩ := RelO.some_of (v := v) (o := mA n) (by rw [← l]; exact hr n)
  have J : PySem.W.InstAt s1.heap a oe C (some od) := ⟨e0, z.1, by unfold PySem.W.notCls; rw [dt] <;> rfl, by rw [z.2]; exact ho⟩
  exact HandSPX.exc_get I1.kIn J T.ga T.gg T.exC (PySem.W.findObj_own T.hdC hno rfl (by rw [hl, hu])) (handed_of ru) ⟨v, H1, I1.tok _, ru, q⟩

/-! ### defs that keep their promise also where an exception is handled -/
structure RoomW (k : Nat) (A : Around) : Prop where
  dp : A.depth + 3 * k + 5 < recursionLimit
  un : A.units + 16 * k + 200 < cLine
  g : A.guards = some []
theorem RoomW.of {k : Nat} {A : Around} (r : RoomG k A) : RoomW k A := ⟨r.r.dp, r.r.un, r.g⟩
theorem RoomW.deeper {k : Nat} {A : Around} (r : RoomW (k + 1) A) (env : Env) : RoomW k (A.deeper env) :=
  ⟨by have := r.dp; show A.depth + 1 + 3 * k + 5 < _; omega, by have := r.un; show A.units + 3 + 16 * k + 200 < _; omega, r.g⟩
theorem RoomW.mark {k : Nat} {A : Around} (r : RoomW k A) (v : Option Value) : RoomW k (A.mark v) := ⟨r.dp, r.un, r.g⟩
theorem RoomW.down {j k : Nat} {A : Around} (r : RoomW k A) (l : j ≤ k) : RoomW j A := ⟨by have := r.dp; omega, by have := r.un; omega, r.g⟩
theorem RoomW.depth {k : Nat} {A : Around} (r : RoomW k A) : A.depth < recursionLimit := by have := r.dp; omega
structure FnW (P : Program) (w : World) (K : PySem.W.Frag) (mg : Str → Option Value) (base : Heap) (CX : CXT) (k : Nat) (f : Addr) (fd : FuncData) (ps : List Str) (sp : Sp) : Prop where
  count : ∀ vs H Q E, sp vs H Q E → vs.length = ps.length
  goes : ∀ (A : Around) (fs : List Env) (s : Shared) (H : Hp) (as : Args) (us : List Value) (vs : List V) (Q : VK) (E : XK), RoomW k A → Env0 P w K mg base A fs s H →
    BindsTo s fd as (ps.zip us) → Vals vs us → sp vs H Q E → codeAny (model P w) A (.call (.ref f) as) (CR CX fs P w H s Q E) s
section
variable {P : Program} {w : World} {K : PySem.W.Frag} {mg : Str → Option Value} {base : Heap} {CX : CXT} {k : Nat} {f : Addr} {fd : FuncData} {ps N : List Str} {sp : Sp}
theorem FnW.g (F : FnW P w K mg base CX k f fd ps sp) : FnG P w K mg base CX k f fd ps sp := ⟨F.count, fun A fs s H as us vs Q E r => F.goes A fs s H as us vs Q E (.of r)⟩
theorem FnW.up {j : Nat} (F : FnW P w K mg base CX j f fd ps sp) (l : j ≤ k) : FnW P w K mg base CX k f fd ps sp := ⟨F.count, fun A fs s H as us vs Q E r => F.goes A fs s H as us vs Q E (r.down l)⟩
/-- the context of such a body: nothing is said of an exception that is handled -/
def cxW (CX : CXT) (P : Program) (w : World) (K : PySem.W.Frag) (mg : Str → Option Value) (base : Heap) (N : List Str) (qual : Str) (scope : Scope) (f : Addr) (cd : Value) (A : Around) (fs : List Env) (s : Shared) (H : Hp) (E : XK) : Cx :=
  { cxOf CX P w K mg base N qual scope f cd A fs s H E with calm := false }
/-- what is known of a state where one is handled is known of it where none is -/
theorem inv_uncalm {qual : Str} {scope : Scope} {cd : Value} {A : Around} {fs : List Env} {s s1 : Shared} {H G : Hp} {E : XK} {pins : List (Addr × Obj)} {σ : L2.St}
    (I : Inv (cxOf CX P w K mg base N qual scope f cd { A with handled := none } fs s H E) pins σ G s1) (he : (envOfC qual scope s.heap.objs.size f cd) = (envOfC qual scope s.heap.objs.size f cd)) : Inv (cxW CX P w K mg base N qual scope f cd A fs s H E) pins σ G s1 :=
  ⟨⟨I.ok.mod, I.ok.kind, I.ok.glob, I.ok.blt, I.ok.above, I.ok.inj, I.ok.has, I.ok.cab, fun z => Bool.noConfusion (show false = true from z), I.ok.frames, I.ok.stk, I.ok.exf, I.ok.bs, I.ok.bsz, I.ok.noex, I.ok.exfs, I.ok.funs, I.ok.frf⟩, I.os, I.bare, I.base, I.loc, I.cell, I.free, I.freeC, I.pin, I.hok, I.len⟩
theorem by_bodyW {name qual : Str} {params : Arguments} {body : List Stmt} {scope : Scope} {dV kV doc pm cdv ct oc : Value} {an od : Option Addr} {osl : Array (Option Value)}
    (at_ : K.lookup f = some ⟨oc, od, .func (PySem.W.fnOf name qual params body scope dV kV doc pm an cdv ct), osl⟩) (cd : PySem.W.codeIn K cdv qual = true) (S : FnScope N ps scope)
    (count : ∀ vs H Q E, sp vs H Q E → vs.length = ps.length)
    (hb : ∀ (A : Around) (fs : List Env) (s : Shared) (H : Hp) (vs : List V) (Q : VK) (E : XK), RoomW k (A.deeper (envOfC qual scope s.heap.objs.size f cdv)) → sp vs H Q E →
      ∃ t, PSs (cxW CX P w K mg base N qual scope f cdv A fs s H E) body t ∧ t { nx := fun _ G => Q .non G, rt := Q } (start N vs) H) :
    FnW P w K mg base CX (k + 1) f (PySem.W.fnOf name qual params body scope dV kV doc pm an cdv ct) ps sp := by
  constructor
  · exact count
  intro A fs s H as us vs Q E room env bind rel want
  have same := count _ _ _ _ want
  have inS : K.In s.heap := env.mod.kin.keeps fun b o z => (env.bs b o z).1
  have noLim : s.heap.NoLimit := env.mod.nolimit.keeps fun b o z => (env.bs b o z).1
  have kinds : ∀ y ∈ ps.zip us, scope.names.lookup y.1 = some .local ∨ (scope.names.lookup y.1 = some .cell ∧ ((cellsFrom (s.heap.objs.size + 1) scope.names []).lookup y.1).isSome = true) := by
    rintro ⟨n, v⟩ hy
    rcases S.par n (List.of_mem_zip hy).1 with z | z
    · exact Or.inl z
    · exact Or.inr ⟨z, PySem.W.cellsFrom_some _ _ _ (.inl z)⟩
  refine codeAny_call_function room.depth (inS _ _ at_) rfl S.co S.gen rfl (PySem.W.codeRec_of inS cd) (bind _ _ _ _ ?_)
  refine wpAny_newFunctionEnv_cells S.kind kinds fun en ee s1 x => ?_
  subst ee
  refine ⟨noLim.keeps x.toInCall.keep, codeAny_func ?_⟩
  obtain ⟨t, ht, hq⟩ := hb A fs s H vs Q E (room.deeper _) want
  have env' : Env0 P w K mg base { A with handled := none } fs s H := ⟨env.frames, env.mod, env.bs, env.bsz, env.funs, env.frf, env.hok, env.bare⟩
  have J := inv_uncalm (A := A) (inv_start (CX := CX) (E := E) S (show { A with handled := none }.handled = none from rfl) env' same rel x) rfl
  have done : ∀ {τ : L2.St} {G : Hp} {v : V} {u : Value} {z : Shared}, Inv (cxW CX P w K mg base N qual scope f cdv A fs s H E) [] τ G z → RelV v u → Q v G → CE fs P w H s Q u z :=
    fun {_ G v _ _} I r q => ⟨v, G, I.os, I.bare, I.base, I.hok, r, q⟩
  refine wpAny_mono (ht.run [] s1 (start N vs) H _ J hq) ?_ fun _ _ z => z
  intro fl z hz
  cases fl with
  | next =>
    obtain ⟨_, _, I, q⟩ := hz
    exact done (v := V.non) (u := Value.none) I rfl q
  | ret u =>
    obtain ⟨_, _, _, I, r, q⟩ := hz
    exact done I r q
  | brk => exact hz.elim fun _ h => h.elim fun _ h => h.2.elim
  | cont => exact hz.elim fun _ h => h.elim fun _ h => h.2.elim
theorem okW {x qual : Str} {st : Stmt} (F : Fun K x qual st f fd) (S : FnScope N ps (defScope st)) (count : ∀ vs H Q E, sp vs H Q E → vs.length = ps.length)
    (hb : ∀ (cdv : Value) (A : Around) (fs : List Env) (s : Shared) (H : Hp) (vs : List V) (Q : VK) (E : XK), RoomW k (A.deeper (envOfC qual (defScope st) s.heap.objs.size f cdv)) → sp vs H Q E →
      ∃ t, PSs (cxW CX0 P w K mg base N qual (defScope st) f cdv A fs s H E).nox (defBody st) t ∧ t { nx := fun _ G => Q .non G, rt := Q } (start N vs) H) : FnW P w K mg base CX0 (k + 1) f fd ps sp := by
  obtain ⟨_, _, _, _, _, _, cdv, _, _, rfl, lk, cd⟩ := F.ex
  refine by_bodyW lk cd S count fun A fs s H vs Q E room want => ?_
  obtain ⟨t, h, q⟩ := hb cdv A fs s H vs Q E room want
  exact ⟨t, h.nox, q⟩
end
section
variable {X : Cx} {CX : CXT} {k : Nat} {f : Addr} {fd : FuncData} {ps : List Str} {sp : Sp} {dvs : List V} {ds : List Value} {E : XK} {x : Str} {p pos : Pos} {e : Expr} {es : List Expr} {t : TA}
theorem pe_callW (F : FnW X.prog X.w X.K X.mg X.base CX k f fd ps sp) (room : RoomW k X.A) (hg : Gl X x) (hm : X.mg x = some (.ref f)) (hk : PySem.W.keepIn X.K (.ref f) = true) (hb : Binds X.K fd ps ds) (hd : Vals dvs ds) (hx : Passes CX X E)
    (ha : PA X (e :: es) t) (nd : (x == ("__debug__" : Str)) = false := by decide) (he : starEach (e :: es) X.env = (false, eval e X.env) :: starEach es X.env := by rfl) (hp : (backTo pos (starEach es X.env)).any (·.1) = false := by rfl) :
    PE X (.Call (.Name x p) (e :: es) [] pos) (tCall sp dvs E t) := by
  constructor
  intro pins s σ H Q I want
  refine wpAny_Call_Name_kw (ld_glob I hg hm ?_ nd)
  refine PySem.W.callWith_K (h₀ := X.base) I.ok.mod.kin hk (thn (ha.run pos pins s σ H _ I want) fun us z ⟨vs, G, J, r, q⟩ => ⟨J.kIn, ?_⟩) he hp
  have rr : Vals (vs ++ dvs) (us ++ ds) := r.append hd
  have len : (us ++ ds).length = ps.length := rr.length.symm.trans (F.count _ _ _ _ q)
  refine wpAny_call (codeAny_mono (F.goes X.A X.stack z G ⟨us, []⟩ (us ++ ds) (vs ++ dvs) Q E room J.env0 (hb z us J.kIn len) rr q) ?_)
  intro res z' hz
  match res, hz with
  | .error e, hz => exact hx pins σ G z e z' J hz
  | .ok (.ret u), hz => exact J.after hz
end
end G9

namespace PySem
namespace G9X
open W Calls
section
variable {M : Model} {A : Around} {E : Value → Shared → Prop} {s : Shared} {K : Frag}
theorem loop_pass {β : Type} {init : β} {body : Value → β → Sem (ForInStep β)} {Q : β → Shared → Prop} : ∀ {cs : List Value}, (∀ c ∈ cs, ∀ {P : ForInStep β → Shared → Prop}, P (.yield init) s → wpAny M A (body c init) P E s) → Q init s → wpAny M A (forIn cs init body) Q E s
  | [], _, q => wpAny_pure q
  | c :: cs, h, q => by
    rw [List.forIn_cons]
    refine wpAny_bind (h c List.mem_cons_self ?_)
    exact loop_pass (cs := cs) (fun d hd => h d (List.mem_cons_of_mem _ hd)) q
theorem loop_any {β : Type} {init found : β} {body : Value → β → Sem (ForInStep β)} {f : Value → Bool} {Q : β → Shared → Prop} : ∀ {cs : List Value}, (∀ c ∈ cs, ∀ {P : ForInStep β → Shared → Prop}, P (if f c then .done found else .yield init) s → wpAny M A (body c init) P E s) → Q (if cs.any f then found else init) s → wpAny M A (forIn cs init body) Q E s
  | [], _, q => wpAny_pure q
  | c :: cs, h, q => by
    rw [List.forIn_cons]
    refine wpAny_bind (h c List.mem_cons_self ?_)
    rw [List.any_cons] at q
    cases hc : f c with
    | true =>
      rw [hc, Bool.true_or, if_pos rfl] at q
      exact wpAny_pure q
    | false =>
      rw [hc, Bool.false_or] at q
      exact loop_any (cs := cs) (fun d hd => h d (List.mem_cons_of_mem _ hd)) q
def exF (K : Frag) (cls c : Value) : Bool := (exmOne K cls c).getD false
theorem exm_all : ∀ {cs : List Value} {cls : Value} {b : Bool}, exmAny K cls cs = some b → (∀ c ∈ cs, exmOne K cls c = some (exF K cls c)) ∧ b = cs.any (exF K cls)
  | [], cls, b, h => ⟨(fun _ z => nomatch z), (Option.some.inj (show some false = some b from h)).symm⟩
  | c :: cs, cls, b, h => by
    obtain ⟨b1, d1, x1, y1, rfl⟩ := exmAny_cons h
    obtain ⟨h1, h2⟩ := exm_all y1
    have e1 : exF K cls c = b1 := by unfold exF; rw [x1]; rfl
    refine ⟨fun d hd => ?_, by rw [List.any_cons, e1, ← h2]⟩
    rcases List.mem_cons.mp hd with z | z
    · rw [z, e1]
      exact x1
    · exact h1 d z
theorem exm_tupN {cs : List Value} {cls : Value} {tp e : Addr} {b : Bool} {h : Heap} (X : K.In h) (LT : Looks M h (typeOf (.ref e)) cls) (hp : h.get? tp = some { cls := .type "tuple", data := .seq cs.toArray }) (hx : exmAny K cls cs = some b) :
    Looks M h (excMatches (.ref e) (.ref tp)) b := by
  intro A Q E s k₀ q
  obtain ⟨hh, g, d, tk, os⟩ := s
  have k : ∀ b o, h.get? b = some o → hh.get? b = some o := k₀
  have L0 : Looks M h (isInstance (.ref tp) (.type "tuple")) true := ((Looks.ld hp).andThen .now).andThen (Looks.of_pure isSubtype_tuple_tuple)
  obtain ⟨h1, h2⟩ := exm_all hx
  have L0 := L0.keeps k
  have LT := LT.keeps k
  have hp' := k _ _ hp
  unfold excMatches
  refine wpAny_bind (L0.at ?_)
  dsimp only
  rw [if_pos rfl]
  first
    | refine wpAny_bind (wpAny_seqItems hp' rfl ?_)
    | refine wpAny_bind (wpAny_bind (wpAny_seqItems hp' rfl (wpAny_pure ?_)))
  dsimp only [Option.getD_some, Option.getD]
  first
    | refine wpAny_bind (loop_pass (fun c hc {P} hP => ?_) ?_)
    | refine wpAny_bind (wpAny_pure (wpAny_bind (loop_pass (fun c hc {P} hP => ?_) ?_)))
  · obtain ⟨e1, _⟩ := exm_cls (M := M) X (h1 c hc)
    refine wpAny_bind ((e1.keeps k).at ?_)
    exact wpAny_pure hP
  refine wpAny_bind (LT.at ?_)
  refine wpAny_bind (loop_any (f := exF K cls) (found := (some true, ())) (fun c hc {P} hP => ?_) ?_)
  · obtain ⟨_, S1⟩ := exm_cls (M := M) X (h1 c hc)
    refine wpAny_bind ((S1.keeps k).at ?_)
    cases hf : exF K cls c with
    | true =>
      rw [hf] at hP
      exact wpAny_pure hP
    | false =>
      rw [hf] at hP
      exact wpAny_pure hP
  · rw [h2] at q
    cases hf : cs.any (exF K cls) with
    | true =>
      rw [hf] at q
      exact wpAny_pure q
    | false =>
      rw [hf] at q
      exact wpAny_pure q
end
end G9X
end PySem

namespace G9
open PySem PySem.Spec PyProof.Rows L2
/-! ### try: several clauses, classes alone or in tuples, with a name or without; the caught exception stands as a value in the suite -/
inductive NamesL (X : Cx) : List Expr → List Value → Prop
  | nil : NamesL X [] []
  | cons {x : Str} {c : Value} {p : Pos} {es : List Expr} {cs : List Value} (h : Names X x c) (r : NamesL X es cs) : NamesL X (.Name x p :: es) (c :: cs)
inductive TestE (X : Cx) : Expr → List Value → Prop
  | one {x : Str} {c : Value} {p : Pos} (h : Names X x c) : TestE X (.Name x p) [c]
  | tup {es : List Expr} {cs : List Value} {n : Nat} {p : Pos} (h : NamesL X es cs) (hl : cs.length ≤ 100) : TestE X (.Tuple es n p) cs
structure Hd where
  cs : List Value
  slot : Option Nat
  ts : Addr → List (Addr × Obj) → TS
def endsAt (slot : Option Nat) (D : Ends) : Ends := match slot with
  | none => D
  | some i => { nx := fun σ H => D.nx (σ.set i none) H, rt := D.rt, bk := fun σ H => D.bk (σ.set i none) H, ct := fun σ H => D.ct (σ.set i none) H }
def setAt (slot : Option Nat) (σ : L2.St) (a : Addr) : L2.St := match slot with
  | none => σ
  | some i => σ.set i (some (.ref a))
def wX (K : PySem.W.Frag) (Wout : WX) (D : Ends) : List Hd → WX
  | [] => Wout
  | h :: r => fun cls d σ H => ∃ b, PySem.W.exmAny K cls h.cs = some b ∧ (b = true → ∀ a pn, H a = none → h.ts a pn (endsAt h.slot D) (setAt h.slot σ a) (upd H a (exv a cls d))) ∧ (b = false → wX K Wout D r cls d σ H)
inductive HdsX (X : Cx) : List ExceptHandler → List Hd → Prop
  | nil : HdsX X [] []
  | only {t : Expr} {cs : List Value} {b₀ : Stmt} {suite : List Stmt} {ts : Addr → List (Addr × Obj) → TS} {pos : Pos} {hds : List ExceptHandler} {l : List Hd} (T : TestE X t cs) (hsu : ∀ (a : Addr) (pn : List (Addr × Obj)), PSs (X.suite a pn) (b₀ :: suite) (ts a pn)) (r : HdsX X hds l) :
      HdsX X (.ExceptHandler (some t) none (b₀ :: suite) pos :: hds) (⟨cs, none, ts⟩ :: l)
  | as {t : Expr} {cs : List Value} {n : Str} {i : Nat} {b₀ : Stmt} {suite : List Stmt} {ts : Addr → List (Addr × Obj) → TS} {pos : Pos} {hds : List ExceptHandler} {l : List Hd} (T : TestE X t cs) (hi : X.N[i]? = some n) (hl : X.env.kindOf n = some .local)
      (hsu : ∀ (a : Addr) (pn : List (Addr × Obj)), PSs (X.suite a pn) (b₀ :: suite) (ts a pn)) (r : HdsX X hds l) : HdsX X (.ExceptHandler (some t) (some n) (b₀ :: suite) pos :: hds) (⟨cs, some i, ts⟩ :: l)

section
variable {X : Cx} {pins : List (Addr × Obj)} {σ : L2.St} {H : Hp} {s sI : Shared} {a : Addr} {cls : Value} {d : Option Addr}
/-- the suite's state: the caught exception is tracked -/
theorem inv_suiteX {oe : Obj} {vs : Array Value} (I : Inv X pins σ H sI) (J : Inv X pins σ H s) (nI : sI.heap.get? a = none) (na : H a = none) (he : s.heap.get? a = some oe) (hz : Zc cls d oe) (hd : oe.data = .fields vs) :
    Inv (X.suite a (X.pn ++ pins)) [] σ (upd H a (exv a cls d)) s := by
  have ne : ∀ {b : Addr} {o : Obj}, sI.heap.get? b = some o → b ≠ a := fun e z => by
    rw [z, nI] at e
    cases e
  have nu : ∀ {b : Addr} {o : HO}, H b = some o → upd H a (exv a cls d) b = some o := fun e => by
    rw [upd_ne (ne_of_none e na)]
    exact e
  refine ⟨J.ok.suite _ _, J.os, J.bare, ⟨J.base.keep, J.base.slot, fun b o e n hx => ?_, J.base.there, fun b xs e => nu (J.base.tups b xs e), fun b o u e => nu (J.base.frzs b o u e), fun b ps e => ?_⟩, J.loc, J.cell, ?_, fun x c e => ?_, fun p hp => ?_, J.hok.laidN (fun _ _ q => q) na (exv_ok he hz hd), J.len⟩
  · obtain ⟨o', q⟩ := I.base.there b o e hx
    rw [upd_ne (ne q)]
    exact J.base.free b o e n hx
  · obtain ⟨more, q⟩ := J.base.tbls b ps e
    exact ⟨more, nu q⟩
  · obtain ⟨m, ⟨o, es, ep, ho, _⟩, _⟩ := I.loc
    show upd H a (exv a cls d) X.env.locals = none
    rw [upd_ne (ne ho)]
    exact J.free
  · obtain ⟨v, o, ho, _⟩ := I.cell x c e
    rw [upd_ne (ne ho)]
    exact J.freeC x c e
  · have hp' : p ∈ X.pn ++ pins := by simpa using hp
    obtain ⟨e0, _⟩ := I.pin p hp'
    obtain ⟨e1, e2, e3⟩ := J.pin p hp'
    exact ⟨e1, by rw [upd_ne (ne e0)]; exact e2, e3⟩
theorem inv_unsuiteX (I : Inv (X.suite a (X.pn ++ pins)) [] σ H s) (ok : X.Ok) : Inv X pins σ H s :=
  ⟨ok, I.os, I.bare, I.base, I.loc, I.cell, I.free, I.freeC, fun p hp => I.pin p (List.mem_append_left _ hp), I.hok, I.len⟩
theorem fly_keep {B h h' : Heap} {l : List Env} {Z : Obj → Prop} (k : ∀ b o, h.get? b = some o → h'.get? b = some o) (f : HandSPX.FlyingZ B l a Z h) : HandSPX.FlyingZ B l a Z h' := by
  obtain ⟨f1, f2, f3, oe, vs, T, oT, ts, e1, e2, e3, e4, e5, e6, e7, e8, e9⟩ := f
  exact ⟨fun b o e => k _ _ (f1 b o e), f2, Heap.FunFrames.of_keeps (fun b o e _ => ⟨o, k b o e, rfl⟩) f3, oe, vs, T, oT, ts, k _ _ e1, e2, e3, e4, e5, e6, k _ _ e7, e8, e9⟩
/-- a clause's test -/
theorem name_run {x : Str} {c : Value} {p : Pos} {pn : List (Addr × Obj)} {Q : Value → Shared → Prop} {E : Value → Shared → Prop} (h : Names X x c) (S : Inv (X.suite a pn) [] σ H s) (q : Q c s) :
    wpAny (model X.prog X.w) (X.A.mark (some (.ref a))) (eval (.Name x p) X.env) Q E s := by
  obtain ⟨hg, nd, hm | ⟨hm, hv, hn⟩⟩ := h
  · exact ld_glob (X := X.suite a pn) S hg hm q nd
  · exact ld_blt (X := X.suite a pn) S hg hm hv q hn nd
theorem names_run {pn : List (Addr × Obj)} {p : Pos} {E : Value → Shared → Prop} (S : Inv (X.suite a pn) [] σ H s) : ∀ {es : List Expr} {cs : List Value}, NamesL X es cs → ∀ {Q : List Value → Shared → Prop}, Q cs s →
    wpAny (model X.prog X.w) (X.A.mark (some (.ref a))) (spliced (backTo p (starEach es X.env))) Q E s
  | _, _, .nil, _, q => wpAny_items_nil q
  | _, _, .cons h r, _, q => wpAny_items_cons (name_run h S (names_run S r q))
theorem test_run {t : Expr} {cs : List Value} {pn : List (Addr × Obj)} {b : Bool} {Q : Bool → Shared → Prop} {E : Value → Shared → Prop} (T : TestE X t cs) (S : Inv (X.suite a pn) [] σ H s)
    (LT : PySem.W.Looks (model X.prog X.w) s.heap (typeOf (.ref a)) cls) (he : PySem.W.exmAny X.K cls cs = some b) (q : ∀ h', (∀ c o, s.heap.get? c = some o → h'.get? c = some o) → Q b { s with heap := h' }) :
    wpAny (model X.prog X.w) (X.A.mark (some (.ref a))) (eval t X.env) (fun c s1 => wpAny (model X.prog X.w) (X.A.mark (some (.ref a))) (excMatches (.ref a) c) Q E s1) E s := by
  cases T with
  | one h =>
    obtain ⟨b1, d1, x1, y1, e⟩ := PySem.W.exmAny_cons he
    have z : some false = some d1 := y1
    cases z
    rw [Bool.or_false] at e
    subst e
    exact name_run h S ((PySem.W.exm_one S.kIn LT x1).here (q s.heap fun _ _ z => z))
  | tup h hl =>
    refine wpAny_Tuple (names_run S h ⟨by rw [sizeLine_eq]; omega, ?_⟩)
    have k : ∀ c o, s.heap.get? c = some o → (s.heap.push { cls := .type "tuple", data := .seq cs.toArray }).get? c = some o := fun _ _ z => Heap.get?_push_of_some _ z
    exact (PySem.G9X.exm_tupN (S.kIn.keeps k) (LT.keeps k) (Heap.get?_push_size s.heap rfl) he).here (q _ k)
end

theorem ps_tryX {X : Cx} {body : List Stmt} {h₀ : ExceptHandler} {hds : List ExceptHandler} {l : List Hd} {pos : Pos} {tb : WX → TS} {Wout : WX}
    (hs : X.stack = X.env :: X.outer) (hf : X.env.frame = some X.env.locals) (hN : X.N.Nodup) (tk : Takes X Wout)
    (hb : ∀ (W : WX) (pn : List (Addr × Obj)) (xe : Value → Shared → Prop), Takes (X.tr pn xe) W → PassesOwn (model X.prog X.w) X.A X.env xe → PSs (X.tr pn xe) body (tb W))
    (hh : HdsX X (h₀ :: hds) l) : PS X (.Try body (h₀ :: hds) [] [] pos) (fun D σ H => tb (wX X.K Wout D l) D σ H) := by
  refine ⟨fun pins s σ H D I h => ?_⟩
  have ok := I.ok
  have stk : X.A.frames = some (X.env :: X.outer) := by rw [ok.frames, hs]
  refine wpAny_Try_except (wpAny_mono ((hb (wX X.K Wout D l) (X.pn ++ pins) (fun e s₁ => wpAny (model X.prog X.w) X.A (noteFrame e X.env) (fun _ s₂ => wpAny (model X.prog X.w) X.A (setFlight e none) (fun _ s₃ =>
    wpAny (model X.prog X.w) X.A (handleBy e X.env (h₀ :: hds)) (SP X pins D) X.xe s₃) X.xe s₂) X.xe s₁) (fun u s' xx => ?_) PassesOwn.looking).run [] s σ H D (I.toTry _) h) (fun fl s1 hsp => ?_) fun e s1 he => he)
  · obtain ⟨a, B, sI, pins', σ1, H1, cls, d, rfl, J', nb, up, sky, na, os, ag, w⟩ := xx
    have J : Inv X pins σ1 H1 sI := J'.ofTry ok
    have sky' : Sky B (X.env :: X.outer) a (Zc cls d) X.env.locals s'.heap := by rw [← hs]; exact sky
    show wpAny (model X.prog X.w) X.A (noteFrame (.ref a) X.env) _ _ _
    refine Sky.land Zc.steady stk hf sky' fun h3 fl3 up3 => ?_
    obtain ⟨oe3, vs3, he3, hz3, hd3⟩ := fl3.there
    have notFr : a ∉ frs (X.env :: X.outer) := fun hm => by
      obtain ⟨_, o', e', hnf⟩ := fl3.2.2.1.mem hm
      rw [he3] at e'
      cases e'
      exact hnf _ hd3
    have nI : sI.heap.get? a = none := by
      cases e : sI.heap.get? a with
      | none => rfl
      | some o =>
        have z := nb a o e (by rw [hs]; exact notFr)
        rw [fl3.2.1] at z
        cases z
    -- the clauses, one after the other
    have go : ∀ {hds' : List ExceptHandler} {l' : List Hd}, HdsX X hds' l' → wX X.K Wout D l' cls d σ1 H1 → ∀ h4 : Heap, HandSPX.FlyingZ B (X.env :: X.outer) a (Zc cls d) h4 → sI.heap.UpToSlots h4 →
        wpAny (model X.prog X.w) X.A (handleBy (.ref a) X.env hds') (SP X pins D) X.xe { s' with heap := h4 } := by
      intro hds' l' hk
      have suite : ∀ {h5 : Heap}, HandSPX.FlyingZ B (X.env :: X.outer) a (Zc cls d) h5 → sI.heap.UpToSlots h5 → Inv (X.suite a (X.pn ++ pins)) [] σ1 (upd H1 a (exv a cls d)) { s' with heap := h5 } := fun fl u => by
        obtain ⟨oe, vs, e, z, dt⟩ := fl.there
        exact inv_suiteX J (J.landed nb fl.1 u os ag) nI na e z dt
      have look : ∀ {h5 : Heap}, HandSPX.FlyingZ B (X.env :: X.outer) a (Zc cls d) h5 → PySem.W.Looks (model X.prog X.w) h5 (typeOf (.ref a)) cls := fun fl A Q E s k q => by
        obtain ⟨oe, vs, e, z, dt⟩ := fl.there
        exact wpAny_typeOf_ref (k _ _ e) (by rw [z.1]; exact q)
      induction hk with
      | nil =>
        intro w h4 fl4 up4
        refine wpAny_handleBy_nil ?_
        obtain ⟨_, _, _, oe, vs, T, oT, ts', he, hz, hd, h1, hr⟩ := id fl4
        unfold PySem.passOn
        refine wpAny_bind (wpAny_field he hd h1 ?_)
        rw [if_neg (show ¬ ((Value.ref T == Value.none) = true) from by simp)]
        have fin : wpAny (model X.prog X.w) X.A (setFlight (.ref a) X.env.frame) (fun _ s4 => wpAny (model X.prog X.w) X.A (throw (.ref a) : Sem Flow) (SP X pins D) X.xe s4) X.xe { s' with heap := h4 } := by
          rw [hf]
          exact HandSPX.setFlight_upZ fl4 fun h5 hh5 up5 => wpAny_throw (tk _ _ ⟨a, B, sI, pins, σ1, H1, cls, d, rfl, J, nb, up4.trans up5, Or.inr (Or.inr (by rw [hs]; exact hh5)), na, os, ag, w⟩)
        first
          | exact wpAny_bind (wpAny_pure (wpAny_bind fin))
          | exact wpAny_bind fin
      | @only t cs b₀ suite' ts pos' hds2 l2 T hsu r ih =>
        intro w h4 fl4 up4
        obtain ⟨b, hb1, yes, no⟩ := w
        refine wpAny_handleBy_cons (codeAny_handlers_test ?_) (by intro q; cases q)
        refine test_run T (suite fl4 up4) (look fl4) hb1 fun h5 k5 => ?_
        have fl5 := fly_keep k5 fl4
        have up5 := up4.trans (Heap.UpToSlots.of_keeps k5)
        cases b with
        | true =>
          refine codeAny_handlers_suite ?_
          refine HandSPX.lands_againZ fl5 fun h6 fl6 up6 => ?_
          refine wpAny_mono ((hsu a (X.pn ++ pins)).run [] _ _ _ _ (suite fl6 (up5.trans up6)) (yes rfl a (X.pn ++ pins) na)) (fun f s7 hq => ?_) fun _ _ z => False.elim z
          cases f with
          | next => exact hq.elim fun σ6 z => z.elim fun H6 z => ⟨σ6, H6, inv_unsuiteX z.1 ok, z.2⟩
          | brk => exact hq.elim fun σ6 z => z.elim fun H6 z => ⟨σ6, H6, inv_unsuiteX z.1 ok, z.2⟩
          | cont => exact hq.elim fun σ6 z => z.elim fun H6 z => ⟨σ6, H6, inv_unsuiteX z.1 ok, z.2⟩
          | ret u => exact hq.elim fun v6 z => z.elim fun σ6 z => z.elim fun H6 z => ⟨v6, σ6, H6, inv_unsuiteX z.1 ok, z.2⟩
        | false =>
          show wpAny _ X.A (handleBy (.ref a) X.env hds2) _ _ _
          exact ih (no rfl) h5 fl5 up5
      | @as t cs n i b₀ suite' ts pos' hds2 l2 T hi hl hsu r ih =>
        intro w h4 fl4 up4
        obtain ⟨b, hb1, yes, no⟩ := w
        refine wpAny_handleBy_cons (codeAny_handlers_test ?_) (by intro q; cases q)
        refine test_run T (suite fl4 up4) (look fl4) hb1 fun h5 k5 => ?_
        have fl5 := fly_keep k5 fl4
        have up5 := up4.trans (Heap.UpToSlots.of_keeps k5)
        cases b with
        | true =>
          refine codeAny_handlers_suite_as ?_
          refine HandSPX.lands_againZ fl5 fun h6 fl6 up6 => ?_
          refine store_ok (X := X.suite a (X.pn ++ pins)) (v := .ref a) (suite fl6 (up5.trans up6)) hN hi (.inl hl) rfl (fun s7 S7 => ?_) (.inr hl)
          refine wpAny_mono ((hsu a (X.pn ++ pins)).run [] s7 _ _ _ S7 (yes rfl a (X.pn ++ pins) na)) (fun f s8 hq => ?_) fun _ _ z => False.elim z
          have end_ : ∀ {σ6 : L2.St} {H6 : Hp} {Q : Shared → Prop}, Inv (X.suite a (X.pn ++ pins)) [] σ6 H6 s8 → (∀ s9, Inv X pins (σ6.set i none) H6 s9 → Q s9) →
              wpAny (model X.prog X.w) X.A (do bindName X.env n .none; unbindBehindTheSuite X.env n pos') (fun _ s9 => Q s9) X.xe s8 := fun {σ6 H6 Q} S hq => gone_ok (inv_unsuiteX S ok) hN hi hl hq
          cases f with
          | next =>
            obtain ⟨σ6, H6, S6, q6⟩ := hq
            exact end_ S6 fun s9 J9 => ⟨_, _, J9, q6⟩
          | brk =>
            obtain ⟨σ6, H6, S6, q6⟩ := hq
            exact end_ S6 fun s9 J9 => ⟨_, _, J9, q6⟩
          | cont =>
            obtain ⟨σ6, H6, S6, q6⟩ := hq
            exact end_ S6 fun s9 J9 => ⟨_, _, J9, q6⟩
          | ret u =>
            obtain ⟨v6, σ6, H6, S6, r6, q6⟩ := hq
            exact end_ S6 fun s9 J9 => ⟨_, _, _, J9, r6, q6⟩
        | false =>
          show wpAny _ X.A (handleBy (.ref a) X.env hds2) _ _ _
          exact ih (no rfl) h5 fl5 up5
    exact go hh w h3 fl3 (up.trans up3)
  · cases fl with
    | next =>
      obtain ⟨σ', H', J', q⟩ := hsp
      exact wpAny_execs_nil ⟨σ', H', J'.ofTry ok, q⟩
    | brk =>
      obtain ⟨σ', H', J', q⟩ := hsp
      exact ⟨σ', H', J'.ofTry ok, q⟩
    | cont =>
      obtain ⟨σ', H', J', q⟩ := hsp
      exact ⟨σ', H', J'.ofTry ok, q⟩
    | ret u =>
      obtain ⟨v, σ', H', J', r, q⟩ := hsp
      exact ⟨v, σ', H', J'.ofTry ok, r, q⟩
end G9

namespace G9
open PySem PySem.Spec PyProof.Rows L2
/-! ### own exception classes of the text: their facts, asked at once -/
def same (a b : Option (Option Value)) : Bool := decide (a = b)
def excCB (K : PySem.W.Frag) (C : Addr) : Bool :=
  same (PySem.W.findIn K (.ref C) "__getattribute__") (some (some (.builtin "BaseException.__getattribute__"))) && (same (PySem.W.findIn K (.ref C) "__getattr__") (some none) && (decide (PySem.W.subIn K (.ref C) (.type "BaseException") = some true) && (PySem.W.hasDictIn K C &&
    (same (PySem.W.findIn K (.ref C) "__class__") (some (some (.builtin "object.__class__"))) && (same (PySem.W.specialIn K (.builtin "object.__class__") "__get__") (some (some (.builtin "getset_descriptor.__get__"))) &&
      (decide (PySem.W.takesIn K (.builtin "object.__class__") = some true) && (decide (PySem.W.mroIn K C (.type "object") = some true) && (decide (PySem.W.typeIn K (.ref C) = some (.type "type")) && PySem.W.keepIn K (.ref C)))))))))
theorem b2 {a b : Bool} (h : (a && b) = true) : a = true ∧ b = true := Bool.and_eq_true_iff.mp h
theorem same_ok {a b : Option (Option Value)} (h : same a b = true) : a = b := of_decide_eq_true h
theorem excCB_ok {K : PySem.W.Frag} {C : Addr} (h : excCB K C = true) : ExcC K C ∧ XfC K C ∧ PySem.W.typeIn K (.ref C) = some (.type "type") ∧ PySem.W.keepIn K (.ref C) = true := by
  obtain ⟨h1, h⟩ := b2 h
  obtain ⟨h2, h⟩ := b2 h
  obtain ⟨h3, h⟩ := b2 h
  obtain ⟨h4, h⟩ := b2 h
  obtain ⟨h5, h⟩ := b2 h
  obtain ⟨h6, h⟩ := b2 h
  obtain ⟨h7, h⟩ := b2 h
  obtain ⟨h8, h⟩ := b2 h
  obtain ⟨h9, h10⟩ := b2 h
  exact ⟨⟨same_ok h1, same_ok h2, of_decide_eq_true h3, h4, same_ok h5, same_ok h6, of_decide_eq_true h7, of_decide_eq_true h8⟩, ⟨same_ok h1, same_ok h2, of_decide_eq_true h3, h4⟩, of_decide_eq_true h9, h10⟩
/-- the class object, as such classes have it -/
def shapeB (K : PySem.W.Frag) (C : Addr) (newId : String) (tl : List Value) : Bool := match K.lookup C with
  | some ⟨.type c, _, .cls cd, sl⟩ => (match cd.mro, sl.toList with
    | .ref D :: bm, [_, _, _, _, some (.builtin n), _] => (c == "type") && ((D == C) && (refsThen tl bm && ((n == newId) && (cd.hasDict && !cd.hasDel))))
    | _, _ => false)
  | _ => false
theorem shapeB_ok {K : PySem.W.Frag} {C : Addr} {newId : String} {tl : List Value} (h : shapeB K C newId tl = true) :
    ∃ nm q N bs bm sn sub ab col dd k0 k1 k2 k3 k5, K.lookup C = some (excClassObj nm q C N bs bm true sn sub ab col dd k0 k1 k2 k3 k5 newId) ∧ refsThen tl bm = true := by
  unfold shapeB at h
  split at h
  · rename_i c dd cd sl ho
    split at h
    · rename_i D bm k0 k1 k2 k3 n k5 hm hs
      obtain ⟨h1, h⟩ := b2 h
      obtain ⟨h2, h⟩ := b2 h
      obtain ⟨h3, h⟩ := b2 h
      obtain ⟨h4, h⟩ := b2 h
      obtain ⟨h5, h6⟩ := b2 h
      obtain ⟨nm, bs, mro, ns, qn, hd, sn, sub, ab, col, del⟩ := cd
      dsimp only at hm h5 h6
      have e1 : c = "type" := beq_iff_eq.mp h1
      have e2 : D = C := beq_iff_eq.mp h2
      have e4 : n = newId := beq_iff_eq.mp h4
      subst e1 e2 e4 hm h5
      have e6 : del = false := by simpa using h6
      subst e6
      have es : sl = #[k0, k1, k2, k3, some (.builtin n), k5] := by
        obtain ⟨l⟩ := sl
        simp only at hs
        rw [hs]
      subst es
      exact ⟨nm, qn, ns, bs, bm, sn, sub, ab, col, dd, k0, k1, k2, k3, k5, ho, h3⟩
    · cases h
  · cases h

/-- an own exception class without own __init__ -/
structure Own0 (K : PySem.W.Frag) (mg : Str → Option Value) (x : Str) (C : Addr) (newId : String) (tl : List Value) : Prop where
  m : mg x = some (.ref C)
  q : PySem.W.excIn K C tl newId = true
  ec : ExcC K C
  xf : XfC K C
  ty : PySem.W.typeIn K (.ref C) = some (.type "type")
  kC : PySem.W.keepIn K (.ref C) = true
def own0B (K : PySem.W.Frag) (C : Addr) (newId : String) (tl : List Value) : Bool := PySem.W.excIn K C tl newId && excCB K C
theorem own0_mk {K : PySem.W.Frag} {mg : Str → Option Value} {x : Str} {C : Addr} {newId : String} {tl : List Value} (m : mg x = some (.ref C)) (h : own0B K C newId tl = true) : Own0 K mg x C newId tl := by
  obtain ⟨h1, h2⟩ := b2 h
  obtain ⟨a, b, c, d⟩ := excCB_ok h2
  exact ⟨m, h1, a, b, c, d⟩
/-- an own exception class with an own __init__ that says super().__init__(..); self.f = pn -/
structure Own1 (P : Program) (K : PySem.W.Frag) (mg : Str → Option Value) (x : Str) (C fI : Addr) (fd : FuncData) (B newId initId : String) (tl : List Value) (qual me pn f : Str) (st : Stmt) : Prop where
  m : mg x = some (.ref C)
  o : OexB B newId initId tl K C
  iC : PySem.W.findIn K (.ref C) "__init__" = some (some (.ref fI))
  tI : PySem.W.typeIn K (.ref fI) = some (.type "function")
  no : PySem.W.findIn K (.ref C) f = some none
  F : SupFn P K mg qual me st fI C fd
  b : Binds K fd [me, pn] []
  ec : ExcC K C
  xf : XfC K C
def own1B (K : PySem.W.Frag) (C fI : Addr) (B newId initId : String) (tl : List Value) (f : Str) : Bool :=
  shapeB K C newId tl && (same (PySem.W.findIn K (.ref C) "__setattr__") (some (some (.builtin "object.__setattr__"))) && (decide (PySem.W.subIn K (.ref C) (.type B) = some true) && (same (PySem.W.nsIn K cStatics "thirdparty.any") (some none) &&
    (same (PySem.W.ks_superIn K C C "__init__") (some (some (.builtin initId))) && (decide (PySem.W.typeIn K (.ref fI) = some (.type "function")) && (same (PySem.W.findIn K (.ref C) f) (some none) && excCB K C))))))
theorem own1_mk {P : Program} {K : PySem.W.Frag} {mg : Str → Option Value} {x : Str} {C fI : Addr} {fd : FuncData} {B newId initId : String} {tl : List Value} {qual me pn f : Str} {st : Stmt} (T : BaseB B newId initId tl) (m : mg x = some (.ref C))
    (iC : PySem.W.findIn K (.ref C) "__init__" = some (some (.ref fI))) (F : SupFn P K mg qual me st fI C fd) (b : Binds K fd [me, pn] []) (h : own1B K C fI B newId initId tl f = true) : Own1 P K mg x C fI fd B newId initId tl qual me pn f st := by
  obtain ⟨h1, h⟩ := b2 h
  obtain ⟨h2, h⟩ := b2 h
  obtain ⟨h3, h⟩ := b2 h
  obtain ⟨h4, h⟩ := b2 h
  obtain ⟨h5, h⟩ := b2 h
  obtain ⟨h6, h⟩ := b2 h
  obtain ⟨h7, h8⟩ := b2 h
  obtain ⟨e1, e2, e3, e4⟩ := excCB_ok h8
  exact ⟨m, ⟨T, shapeB_ok h1, same_ok h2, e1.hs, e3, e4, of_decide_eq_true h3, same_ok h4, same_ok h5⟩, iC, of_decide_eq_true h6, same_ok h7, F, b, e1, e2⟩
/-! ### isinstance, except: which class stands under which -/
def isTab (K : PySem.W.Frag) (cs : List Addr) (ds : List Value) : List (List (Option Bool)) := cs.map fun c => ds.map fun d => PySem.W.kitOne K (.ref c) d
theorem isTab_at {K : PySem.W.Frag} {cs : List Addr} {ds : List Value} {tab : List (List (Option Bool))} (h : isTab K cs ds = tab) {i j : Nat} {c : Addr} {d : Value} {r : List (Option Bool)} {b : Option Bool} (hc : cs[i]? = some c) (hd : ds[j]? = some d) (hr : tab[i]? = some r) (hb : r[j]? = some b) :
    PySem.W.kitOne K (.ref c) d = b := by
  subst h
  unfold isTab at hr
  rw [List.getElem?_map, hc] at hr
  cases hr
  rw [List.getElem?_map, hd] at hb
  exact Option.some.inj hb
def exTab (K : PySem.W.Frag) (cs : List Addr) : List (List (Option Bool)) := cs.map fun c => cs.map fun d => PySem.W.exmOne K (.ref c) (.ref d)
theorem exTab_at {K : PySem.W.Frag} {cs : List Addr} {tab : List (List (Option Bool))} (h : exTab K cs = tab) {i j : Nat} {c d : Addr} {r : List (Option Bool)} {b : Option Bool} (hc : cs[i]? = some c) (hd : cs[j]? = some d) (hr : tab[i]? = some r) (hb : r[j]? = some b) :
    PySem.W.exmOne K (.ref c) (.ref d) = b := by
  subst h
  unfold exTab at hr
  rw [List.getElem?_map, hc] at hr
  cases hr
  rw [List.getElem?_map, hd] at hb
  exact Option.some.inj hb
/-- a def in a class with super(): from the written part -/
theorem supFn_mk {P : Program} {K : PySem.W.Frag} {mg : Str → Option Value} {qual me : Str} {st : Stmt} {f C : Addr} {oc kV doc pm ct ccl cl : Value} {od an cdd cld : Option Addr} {osl ccs csl : Array (Option Value)} {cda cc : Addr} {vs : Array Value} {file : Str} {tf : Tok}
    (lk : K.lookup f = some ⟨oc, od, .func (PySem.W.fnX "__init__" qual (defArgs st) (defBody st) (defScope st) [("__class__", cc)] .none kV doc pm an (.ref cda) ct), osl⟩) (cd : PySem.W.codeIn K (.ref cda) qual = true) (hcode : K.lookup cda = some ⟨ccl, cdd, .fields vs, ccs⟩)
    (hvs : vs[2]? = some (.str file tf)) (hfile : ((P.main.file : Str) == file) = true) (hcell : K.lookup cc = some ⟨cl, cld, .cell (some (.ref C)), csl⟩) (top : (P.main.scope.names.lookup ("super" : Str)).isSome = false) (sup : mg "super" = none)
    (ar : ((defArgs st).posonlyargs ++ (defArgs st).args).head?.map (·.arg) = some me) :
    SupFn P K mg qual me st f C (PySem.W.fnX "__init__" qual (defArgs st) (defBody st) (defScope st) [("__class__", cc)] .none kV doc pm an (.ref cda) ct) :=
  ⟨⟨oc, kV, doc, pm, ct, ccl, cl, od, an, cdd, cld, osl, ccs, csl, cda, cc, vs, file, tf, rfl, lk, cd, hcode, hvs, hfile, hcell⟩, top, sup, ar⟩
end G9

namespace G9
open PySem PySem.Spec PyProof.Rows L2
section
variable {X : Cx} {CX : CXT} {k : Nat} {f : Addr} {fd : FuncData} {ps : List Str} {sp : Sp} {E : L2.St → XK} {x : Str} {p pos : Pos} {e : Expr} {es : List Expr} {t : TA}
/-- a call that may raise; what is wanted of the exception hangs on the slots -/
theorem pe_callGS (F : FnG X.prog X.w X.K X.mg X.base CX k f fd ps sp) (room : RoomG k X.A) (hg : Gl X x) (hm : X.mg x = some (.ref f)) (hk : PySem.W.keepIn X.K (.ref f) = true) (hb : Binds X.K fd ps []) (hx : ∀ σ, PassesAt CX X σ (E σ))
    (ha : PA X (e :: es) t) (nd : (x == ("__debug__" : Str)) = false := by decide) (he : starEach (e :: es) X.env = (false, eval e X.env) :: starEach es X.env := by rfl) (hp : (backTo pos (starEach es X.env)).any (·.1) = false := by rfl) :
    PE X (.Call (.Name x p) (e :: es) [] pos) (tCallS sp E t) := by
  constructor
  intro pins s σ H Q I want
  refine wpAny_Call_Name_kw (ld_glob I hg hm ?_ nd)
  refine PySem.W.callWith_K (h₀ := X.base) I.ok.mod.kin hk (thn (ha.run pos pins s σ H _ I want) fun us z ⟨vs, G, J, r, q⟩ => ⟨J.kIn, ?_⟩) he hp
  have len : us.length = ps.length := r.length.symm.trans (F.count _ _ _ _ q)
  have bd := hb z us J.kIn (by rw [List.append_nil]; exact len)
  rw [List.append_nil] at bd
  refine wpAny_call (codeAny_mono (F.goes X.A X.stack z G ⟨us, []⟩ us vs Q (E σ) room J.env0 bd r q) ?_)
  intro res z' hz
  match res, hz with
  | .error e, hz => exact hx σ pins G z e z' J hz
  | .ok (.ret u), hz => exact J.after hz
end
section
variable {P : Program} {w : World} {K : PySem.W.Frag} {mg : Str → Option Value} {base : Heap} {k : Nat} {f : Addr} {fd : FuncData} {ps N : List Str} {sp : Sp}
/-- a def that may raise -/
theorem okGX {x qual : Str} {st : Stmt} (F : Fun K x qual st f fd) (S : FnScope N ps (defScope st)) (count : ∀ vs H Q E, sp vs H Q E → vs.length = ps.length)
    (hb : ∀ (cdv : Value) (A : Around) (fs : List Env) (s : Shared) (H : Hp) (vs : List V) (Q : VK) (E : XK), RoomG k (A.deeper (envOfC qual (defScope st) s.heap.objs.size f cdv)) → sp vs H Q E →
      Takes (cxOf (L2.CX P w) P w K mg base N qual (defScope st) f cdv A fs s H E) (fun cls d _ H => E cls d H) →
      ∃ t, PSs (cxOf (L2.CX P w) P w K mg base N qual (defScope st) f cdv A fs s H E) (defBody st) t ∧ t { nx := fun _ G => Q .non G, rt := Q } (start N vs) H) : FnG P w K mg base (L2.CX P w) (k + 1) f fd ps sp := by
  obtain ⟨_, _, _, _, _, _, cdv, _, _, rfl, lk, cd⟩ := F.ex
  exact by_body lk cd S count fun A fs s H vs Q E room want => hb cdv A fs s H vs Q E room want (takes_of rfl rfl rfl rfl)
end
/-- the def of an own exception class, by its text -/
theorem init_of {P : Program} {w : World} {K : PySem.W.Frag} {mg : Str → Option Value} {base : Heap} {x : Str} {C fI : Addr} {fd : FuncData} {B newId initId : String} {tl : List Value} {qual me pn f : Str} {st : Stmt} {N : List Str} {ej : Expr} {p0 p1 p2 p7 p8 p9 p10 p11 p12 : Pos} {te : TE}
    (O : Own1 P K mg x C fI fd B newId initId tl qual me pn f st) (S : SupScope N [me, pn] me (defScope st))
    (hbody : defBody st = [.Expr (.Call (.Attribute (.Call (.Name "super" p0) [] [] p1) "__init__" p2) [ej] [] p7) p8, .Assign [.Attribute (.Name me p9) f p10] (.Name pn p11) p12])
    (dbg : (me == ("__debug__" : Str)) = false ∧ (me == ("__classdict__" : Str)) = false ∧ (pn == ("__debug__" : Str)) = false ∧ (pn == ("__classdict__" : Str)) = false)
    (hev : ∀ X : Cx, ∃ pl : Sem Bool, eval (.Call (.Attribute (.Call (.Name "super" p0) [] [] p1) "__init__" p2) [ej] [] p7) X.env = (do
      let ov ← attributeBase (.Call (.Name "super" p0) [] [] p1) "__init__" X.env (eval (.Call (.Name "super" p0) [] [] p1) X.env)
      standAt p2.atName
      let (f, first) ← holding [ov] (getMethod ov "__init__" pl)
      callWith p7 f first (backTo p7 (starEach [ej] X.env)) [])) (hst : ∀ X : Cx, starEach [ej] X.env = (false, eval ej X.env) :: starEach [] X.env)
    (hsw : ∀ X : Cx, swapsWith (.Name pn p11) (some (.Attribute (.Name me p9) f p10)) p12.line X.env = pure false) (k : Nat)
    (hj : ∀ X : Cx, X.K = K → RoomG k X.A → X.N[1]? = some pn → Vis X.env.scope pn → PE X ej te)
    (ht : ∀ (σ : L2.St) (H : Hp) (Q : VK) (v : V), σ[1]? = some (some v) → Shw K H v → (∀ y : Str, Q (.str y) H) → te σ H Q) :
    FnG P w K mg base CX0 (k + 1) fI fd [me, pn] (spInit C f K) := init_def O.o O.F S hbody O.no dbg hev hst hsw hj ht
end G9

namespace G9
open PySem PySem.Spec PyProof.Rows L2
/-! ### the text of such an error: some text that shows the value -/
def tSome (K : PySem.W.Frag) : TE := fun σ H Q => ∃ v, σ[1]? = some (some v) ∧ Shw K H v ∧ ∀ y : Str, Q (.str y) H
section
variable {X : Cx} {k : Nat} {m m2 pn : Str} {j j2 : Nat} {p3 p4 p5 p6 p7 : Pos}
theorem str_len {a b : Str} : (a ++ b).length = a.length + b.length := strLen_append a b
theorem pe_j2 (room : RoomG k X.A) (hN : X.N[1]? = some pn) (hv : Vis X.env.scope pn) (d1 : (pn == ("__debug__" : Str)) = false) (d2 : (pn == ("__classdict__" : Str)) = false) (hm : m.length ≤ 500) :
    PE X (.JoinedStr [.Constant (.str m) j p3, .FormattedValue (.Name pn p4) 114 none p5] p6) (tSome X.K) := by
  have h := pe_joined (pos := p6) (PJ.cons (pe_str (X := X) (x := m) (j := j) (pos := p3)) (PJ.cons (pe_shw (pos := p5) room (pe_var (pos := p4) hN hv d1 d2)) PJ.nil))
  refine ⟨fun pins s σ H Q I q => h.run pins s σ H Q I ?_⟩
  obtain ⟨v, e, sh, q⟩ := q
  have e0 : (Str.empty ++ m).length = m.length := by rw [str_len]; exact Nat.zero_add _
  refine ⟨m, rfl, by rw [e0, sizeLine_eq]; omega, v, e, sh, fun y hy => ⟨y, rfl, ?_, q _⟩⟩
  rw [str_len, e0]
  omega
theorem pe_j3 (room : RoomG k X.A) (hN : X.N[1]? = some pn) (hv : Vis X.env.scope pn) (d1 : (pn == ("__debug__" : Str)) = false) (d2 : (pn == ("__classdict__" : Str)) = false) (hm : m.length ≤ 400) (hm2 : m2.length ≤ 400) :
    PE X (.JoinedStr [.Constant (.str m) j p3, .FormattedValue (.Name pn p4) 114 none p5, .Constant (.str m2) j2 p7] p6) (tSome X.K) := by
  have h := pe_joined (pos := p6) (PJ.cons (pe_str (X := X) (x := m) (j := j) (pos := p3)) (PJ.cons (pe_shw (pos := p5) room (pe_var (pos := p4) hN hv d1 d2)) (PJ.cons (pe_str (X := X) (x := m2) (j := j2) (pos := p7)) PJ.nil)))
  refine ⟨fun pins s σ H Q I q => h.run pins s σ H Q I ?_⟩
  obtain ⟨v, e, sh, q⟩ := q
  have e0 : (Str.empty ++ m).length = m.length := by rw [str_len]; exact Nat.zero_add _
  refine ⟨m, rfl, by rw [e0, sizeLine_eq]; omega, v, e, sh, fun y hy => ⟨y, rfl, ?_, m2, rfl, ?_, q _⟩⟩
  · rw [str_len, e0]
    omega
  · rw [str_len, str_len, e0]
    omega
end
theorem sql_S {K : PySem.W.Frag} {H G : Hp} {a : Addr} {xs : List V} (s : Same H G) (h : SqL K H a xs) : SqL K G a xs := s.seq h
mutual
theorem dp_same {K : PySem.W.Frag} {H G : Hp} (s : Same H G) : ∀ {v : V} {d : PyData}, Dp K H v d → Dp K G v d
  | _, _, .non => .non
  | _, _, .bl b => .bl b
  | _, _, .int i => .int i
  | _, _, .str x => .str x
  | _, _, .lst h r => .lst (s.seq h) (dps_same s r)
  | _, _, .tup h r => .tup (sqt_same s h) (dps_same s r)
theorem dps_same {K : PySem.W.Frag} {H G : Hp} (s : Same H G) : ∀ {vs : List V} {ds : List PyData}, DpAll K H vs ds → DpAll K G vs ds
  | _, _, .nil => .nil
  | _, _, .cons h r => .cons (dp_same s h) (dps_same s r)
end
theorem s_callS {sp : Sp} {E : L2.St → XK} {t : TA} {σ : L2.St} {H : Hp} {Q : VK} (q : t σ H fun vs H1 => sp vs H1 Q (E σ)) : tCallS sp E t σ H Q := q
/-- what can be shown, whatever is new -/
def ShwU (K : PySem.W.Frag) (H : Hp) (v : V) : Prop := ∀ a o, H a = none → Shw K (upd H a o) v
theorem shw_same {K : PySem.W.Frag} {H G : Hp} {v : V} (s : Same H G) (h : Shw K H v) : Shw K G v := by
  rcases h with h | h | h | h | ⟨p, d, e, hd, r⟩ | ⟨p, kvs, ds, e, hd, r⟩
  · exact Or.inl h
  · exact Or.inr (Or.inl h)
  · exact Or.inr (Or.inr (Or.inl h))
  · exact Or.inr (Or.inr (Or.inr (Or.inl h)))
  · exact Or.inr (Or.inr (Or.inr (Or.inr (Or.inl ⟨p, d, e, dp_same s hd, r⟩))))
  · exact Or.inr (Or.inr (Or.inr (Or.inr (Or.inr ⟨p, kvs, ds, e, s _ _ hd, r⟩))))
theorem shw_u {K : PySem.W.Frag} {H : Hp} {v : V} (h : Shw K H v) : ShwU K H v := fun a o n => shw_same (Same.upd0 n) h
end G9

namespace G9
open PySem PySem.Spec PyProof.Rows L2
theorem XAt.same {H G : Hp} {a C : Addr} {od : Option Addr} {fs : List (Str × V)} (s : Same H G) (x : XAt H a C od fs) : XAt G a C od fs := by
  obtain ⟨⟨φ, e, k⟩, y⟩ := x
  refine ⟨⟨φ, s _ _ e, k⟩, ?_⟩
  cases od with
  | none => exact y
  | some d =>
    rcases y with e | e
    · exact Or.inl (s _ _ e)
    · exact Or.inr (s _ _ e)
section
variable {K : PySem.W.Frag} {H : Hp} {a C D : Addr} {od : Option Addr} {fs : List (Str × V)} {b : Bool} {Q : VK} {n : String}
theorem l_isX (T : ExcC K C) (x : XAt H a C od fs) (k : PySem.W.kitOne K (.ref C) (.ref D) = some b) (q : Q (.bl b) H) : rIsX K [.ref a, .ref D] H Q := ⟨a, C, od, fs, .ref D, .ref D, b, rfl, T, x, fun u r => r, k, q⟩
theorem l_isXt (T : ExcC K C) (x : XAt H a C od fs) (k : PySem.W.kitOne K (.ref C) (.type n) = some b) (q : Q (.bl b) H) : rIsX K [.ref a, .ty n] H Q := ⟨a, C, od, fs, .ty n, .type n, b, rfl, T, x, fun u r => r, k, q⟩
end
theorem isTab_of {K : PySem.W.Frag} {cs : List Addr} {ds : List Value} {f : Nat → Nat → Bool} {n m : Nat} (h : isTab K cs ds = (List.range n).map fun i => (List.range m).map fun j => some (f i j)) {i j : Nat} {c : Addr} {d : Value} (hi : i < n) (hj : j < m) (hc : cs[i]? = some c) (hd : ds[j]? = some d) :
    PySem.W.kitOne K (.ref c) d = some (f i j) :=
  isTab_at (r := (List.range m).map fun j => some (f i j)) h hc hd (by rw [List.getElem?_map, List.getElem?_range hi]; rfl) (by rw [List.getElem?_map, List.getElem?_range hj]; rfl)
theorem tk0 {X : Cx} : Takes X (fun _ _ _ _ => False) := takes_none5
theorem exTab_of {K : PySem.W.Frag} {cs : List Addr} {f : Nat → Nat → Bool} {n : Nat} (h : exTab K cs = (List.range n).map fun i => (List.range n).map fun j => some (f i j)) {i j : Nat} {c d : Addr} (hi : i < n) (hj : j < n) (hc : cs[i]? = some c) (hd : cs[j]? = some d) :
    PySem.W.exmOne K (.ref c) (.ref d) = some (f i j) :=
  exTab_at (r := (List.range n).map fun j => some (f i j)) h hc hd (by rw [List.getElem?_map, List.getElem?_range hi]; rfl) (by rw [List.getElem?_map, List.getElem?_range hj]; rfl)
end G9

namespace PySem
namespace SeqAt
/-- l.index(x, i0) -/
theorem index3At (l : Addr) (items : Array Value) (n : Nat) (dd : Option Addr) (sl : Array (Option Value)) (x : Value) (e : Value → Bool) (i0 j : Nat) (t : Tok) (hj : j < items.size) (hi : i0 ≤ j) (small : (j : Int) < 2 ^ 63 - 1)
    (hit : e items[j] = true) (hno : ∀ m (hm : m < items.size), i0 ≤ m → m < j → e items[m] = false) :
    Meets (Builtin.«list.index» ⟨[.ref l, x, .int (i0 : Int) t], []⟩)
      (fun A R s => s.heap.get? l = some { cls := .type "list", dict := dd, data := .seq items n, slots := sl } ∧ (∀ y, y ∈ items → EqAt A.in1 s y x (e y)) ∧ R (.ok (.ret (.int j s.toks))) { s with toks := s.toks + 1 }) := by
  intro prog w A R s h
  obtain ⟨hp, g, d, tk, os⟩ := s
  obtain ⟨hl, he, h⟩ := h
  have f1 := F.slot_int_index.lookup
  wp_walk using wpAny_loadPart' hl
  have a1 : ((fun i : Int => if i < 0 then max 0 (i + (items.size : Int)) else i) ((some (i0 : Int) : Option Int).getD 0)) = ((i0 : Nat) : Int) := by
    show (if (i0 : Int) < 0 then _ else (i0 : Int)) = (i0 : Int)
    rw [if_neg (by omega)]
  have a2 : ((fun i : Int => if i < 0 then max 0 (i + (items.size : Int)) else i) ((none : Option Int).getD (2 ^ 63 - 1))) = 2 ^ 63 - 1 := by simp
  all_goals
    rw [a1, a2]
    exact ⟨plainId_quiet MeetsSeq.plain_index_loop _, codeAny_builtin MeetsSeq.entry_index_loop (by
      rw [Around.under_plainId MeetsSeq.plain_index_loop _]
      exact index_loopAt l items n dd sl x e (2 ^ 63 - 1) j hj small hit _ i0 rfl hi hno prog w A R _ ⟨hl, he, h⟩)⟩
end SeqAt
end PySem
namespace G9
open PySem PySem.Spec PyProof.Rows L2
section
variable {X : Cx}
/-- l.index(y, i0), flat items -/
def rIndex3 (K : PySem.W.Frag) : V → List V → Hp → VK → Prop := fun x xs H Q => ∃ (a : Addr) (ys : List V) (y : V) (i0 j : Nat) (z : V), x = V.ref a ∧ xs = [y, .int (i0 : Int)] ∧ SqL K H a ys ∧ flatV y = true ∧ ys.all flatV = true ∧ i0 ≤ j ∧ ys[j]? = some z ∧ eqV z y = true ∧
  (∀ (m : Nat) (z' : V), i0 ≤ m → m < j → ys[m]? = some z' → eqV z' y = false) ∧ Q (.int (j : Nat)) H
theorem mt_index3 : MtR X "list.index" (rIndex3 X.K) := by
  intro pins s σ H x xs v us Q I rx rxs h
  obtain ⟨a, ys, y, i0, j, z, rfl, rfl, hs, fy, fys, hi, hz, hzj, hno, q⟩ := h
  cases rx
  cases rxs with
  | @cons _ uy _ _ ry rt =>
    cases rt with
    | @cons _ ui _ _ ri rn =>
      cases rn
      obtain ⟨ti, rfl⟩ := ri
      obtain ⟨its, rv, ⟨⟨cls, dd, data, sl⟩, n, ho, hc, hdn, hd⟩, hlen⟩ := I.list hs
      simp only at hc hd
      subst hc hd
      obtain ⟨u, hu, ru⟩ := rv.get hz
      obtain ⟨hjl, hje⟩ := List.getElem?_eq_some_iff.mp hu
      have hvl := rv.length
      have hj : j < its.toArray.size := by simpa using hjl
      have hsl := sizeLine_eq
      refine call_meets PySem.F.slot_list_index ⟨_, ho, rfl⟩ PySem.F.entry_list_index (PySem.F.args_list_index_3 _ _ _)
        (SeqAt.index3At a its.toArray n dd sl uy (eqU y) i0 j ti hj hi (by omega) ?_ ?_) ⟨ho, fun u' hu' => mem_eqAt ry fy rv fys u' (by simpa using hu'), ?_⟩
      · have e1 : its.toArray[j] = u := by simpa using hje
        rw [e1, eqU_of ru (flat_at fys hz)]
        exact hzj
      · intro m hm him hmj
        have hml : m < its.length := by simpa using hm
        have hmy : m < ys.length := by omega
        have hy' : ys[m]? = some ys[m] := List.getElem?_eq_getElem hmy
        obtain ⟨u2, hu2, ru2⟩ := rv.get hy'
        obtain ⟨_, hme⟩ := List.getElem?_eq_some_iff.mp hu2
        have e1 : its.toArray[m] = u2 := by simpa using hme
        rw [e1, eqU_of ru2 (flat_at fys hy')]
        exact hno m _ him hmj hy'
      · exact ⟨.int (j : Nat), H, I.tok _, ⟨_, rfl⟩, q⟩
end
end G9

namespace G9
open PySem PySem.Spec PyProof.Rows L2
section
variable {K : PySem.W.Frag} {σ : L2.St} {H : Hp} {Q : VK} {tl : TI} {tar : TA} {t : TT} {te : TE} {j : Nat} {g : TG} {tbd : TS} {D : Ends}
/-! ### comprehensions over range, loops over enumerate -/
def RngLc (g : TG) (tt : TT) (te : TE) (vs : List Nat) (σ : L2.St) (Q : VK) (us : List V) (H1 : Hp) : Prop := ∃ n : Int, us = [.int n] ∧ -(2 ^ 62) ≤ n ∧ n < 2 ^ 62 ∧ WLc (Itr 0 n.toNat) g tt te vs σ Q H1
theorem s_lcR (q : tar σ H fun us H1 => RngLc g t te [j] σ Q us H1) : tLc (iRng1 tar) g t te [j] σ H Q := q
def intsTo (n : Nat) : List V := (List.range n).map fun i => V.int (i : Nat)
theorem walk_ints {n : Nat} : Walk (Itr 0 n) (intsTo n).length (fun _ => True) (YAt (intsTo n)) := by
  have e : (intsTo n).length = n := by unfold intsTo; rw [List.length_map, List.length_range]
  rw [e]
  refine (walk_range (lo := 0) (n := n)).mono (fun _ _ => trivial) fun i H x H' hi _ y => ?_
  obtain ⟨rfl, rfl⟩ := y
  refine ⟨rfl, ?_⟩
  unfold intsTo
  rw [List.getElem?_map, List.getElem?_range hi]
  show some (V.int (i : Nat)) = some (V.int (0 + (i : Nat)))
  rw [Int.zero_add]
theorem l_lcR {n : Nat} (hn : n ≤ 100000) (keep : V → Bool) (f : V → V) (test : ∀ x ∈ intsTo n, ∀ G, Same H G → ToB t ((wipe σ [j]).set j (some x)) G (keep x))
    (val : ∀ x ∈ intsTo n, keep x = true → ∀ G, Same H G → ToV te ((wipe σ [j]).set j (some x)) G (f x)) (fin : ∀ D G, H D = none → Same H G → G D = some (.lst (((intsTo n).filter keep).map f)) → Q (.ref D) G) :
    RngLc (gName j) t te [j] σ Q [.int (n : Int)] H :=
  ⟨n, rfl, by omega, by omega, wlc_of walk_ints (fun _ _ => trivial) keep f (by unfold intsTo; rw [List.length_map, List.length_range]; exact hn) test val fin⟩
def EFor (K : PySem.W.Frag) (g : TG) (tb : TS) (D : Ends) (σ : L2.St) (us : List V) (H1 : Hp) : Prop := ∃ (a : Addr) (xs : List V), us = [.ref a] ∧ SqL K H1 a xs ∧ WFor (Ite K a) g tb D σ H1
theorem s_forE (q : tar σ H fun us H1 => EFor K g tbd D σ us H1) : tFor (iEnum K tar) g tbd D σ H := q
theorem l_forE {p : Addr} {xs : List V} (h : SqL K H p xs) (Pv : Nat → L2.St → Hp → Prop) (a : Pv 0 σ H) (stay : ∀ i σ H, i ≤ xs.length → Pv i σ H → SqL K H p xs)
    (turn : ∀ (i : Nat) x T σ H, xs[i]? = some x → Pv i σ H → H T = none → g (.ref T) σ (upd H T (.tup [.int (i : Nat), x])) fun σ2 H2 => tbd { D with nx := Pv (i + 1), ct := Pv (i + 1), bk := D.nx } σ2 H2) (done : ∀ σ H, Pv xs.length σ H → D.nx σ H) :
    EFor K g tbd D σ [.ref p] H :=
  ⟨p, xs, rfl, h, for_it walk_enum Pv a stay (fun i x σ H H' hi q y => by
    obtain ⟨T, u, z, rfl, n, rfl, e1, e2⟩ := y
    cases e1
    exact turn i z T σ H e2 q n) done⟩
end
end G9

namespace G9
open PySem PySem.Spec PyProof.Rows L2
/-! ### data of moderate size: what ==, repr and !r want of it -/
/-- its text has at most n signs, it is at most m deep -/
structure Sml (n m : Nat) (d : PyData) : Prop where
  sh : d.showable = true
  nd : d.hasDict = false
  dp : d.depth ≤ m
  ln : d.shown.length ≤ n
  lay : d.canLay0 = true
theorem Sml.up {n m n' m' : Nat} {d : PyData} (h : Sml n m d) (a : n ≤ n') (b : m ≤ m') : Sml n' m' d := ⟨h.sh, h.nd, Nat.le_trans h.dp b, Nat.le_trans h.ln a, h.lay⟩
theorem Sml.shaped {n m : Nat} {d : PyData} (h : Sml n m d) (a : m ≤ 64) : SeqAt.shaped d = true := by
  unfold SeqAt.shaped
  rw [h.lay, decide_eq_true (Nat.le_trans h.dp a)]
  rfl
theorem sml_non : Sml 4 0 .none := ⟨rfl, rfl, Nat.le_refl _, by decide +kernel, rfl⟩
theorem sml_bl (b : Bool) : Sml 5 0 (.bool b) := ⟨rfl, rfl, Nat.le_refl _, by cases b <;> decide +kernel, rfl⟩
theorem sml_int {i : Int} (h : i.natAbs.log2 < 1920) : Sml 1921 0 (.int i) := ⟨decide_eq_true h, rfl, Nat.le_refl _, by
  have e := int_text_length_le (k := 1920) (by decide) h
  show (Str.ofString (toString i)).length ≤ 1921
  rw [PySem.ofString_length]
  omega, rfl⟩
theorem sml_str {x : Str} {k : Nat} (hl : x.length ≤ k) (hc : ∀ c ∈ x.cps.toList, c < 128) : Sml (10 * k + 2) 0 (.str x) := ⟨rfl, rfl, Nat.le_refl _, by
  have e := StrLaws.reprText_len x fun c h => Nat.lt_trans (hc c h) (by decide)
  show (reprText x).length ≤ _
  omega, by
  show PyData.strOk x = true
  unfold PyData.strOk
  rw [← Array.all_toList, List.all_eq_true]
  intro c h
  exact decide_eq_true (Nat.lt_trans (hc c h) (by decide))⟩
theorem piled_le {ts : List Str} {n : Nat} (h : ∀ t ∈ ts, t.length ≤ n) : piled ts ≤ ts.length * (n + 2) := by
  induction ts with
  | nil => exact Nat.zero_le _
  | cons t ts ih =>
    rw [piled_cons, List.length_cons, Nat.succ_mul]
    have h1 := h t List.mem_cons_self
    have h2 := ih fun u hu => h u (List.mem_cons_of_mem _ hu)
    omega
theorem shownAll_map : ∀ ds : List PyData, PyData.shownAll ds = ds.map PyData.shown
  | [] => rfl
  | d :: ds => by
    rw [PyData.shownAll, shownAll_map ds]
    rfl
theorem all_small {n m : Nat} {ds : List PyData} (h : ∀ d ∈ ds, Sml n m d) : PyData.showableAll ds = true ∧ PyData.hasDictAll ds = false ∧ PyData.depthAll ds ≤ m ∧ PyData.canLayAll0 ds = true ∧ piled (PyData.shownAll ds) ≤ ds.length * (n + 2) := by
  refine ⟨?_, ?_, ?_, ?_, ?_⟩
  · induction ds with
    | nil => rfl
    | cons d ds ih => rw [PyData.showableAll, (h d List.mem_cons_self).sh, ih fun x hx => h x (List.mem_cons_of_mem _ hx)]; rfl
  · induction ds with
    | nil => rfl
    | cons d ds ih => rw [PyData.hasDictAll, (h d List.mem_cons_self).nd, ih fun x hx => h x (List.mem_cons_of_mem _ hx)]; rfl
  · induction ds with
    | nil => exact Nat.zero_le _
    | cons d ds ih =>
      rw [PyData.depthAll]
      have h1 := (h d List.mem_cons_self).dp
      have h2 := ih fun x hx => h x (List.mem_cons_of_mem _ hx)
      omega
  · induction ds with
    | nil => rfl
    | cons d ds ih => rw [PyData.canLayAll0, (h d List.mem_cons_self).lay, ih fun x hx => h x (List.mem_cons_of_mem _ hx)]; rfl
  · rw [shownAll_map]
    refine Nat.le_trans (piled_le (n := n) fun t ht => ?_) (by rw [List.length_map]; exact Nat.le_refl _)
    obtain ⟨d, hd, rfl⟩ := List.mem_map.mp ht
    exact (h d hd).ln
theorem textFrom_le : ∀ (ts : List Str) (k : Nat) (acc : Str), (textFrom k acc ts).length ≤ acc.length + piled ts
  | [], k, acc => by
    show acc.length ≤ _
    omega
  | t :: ts, k, acc => by
    rw [piled_cons]
    have e := textFrom_le ts (k + 1) (acc ++ ((if k > 0 then ", " else "" : String) : Str) ++ t)
    rw [strLen_append, strLen_append] at e
    have e1 : ((if k > 0 then ", " else "" : String) : Str).length ≤ 2 := by split <;> decide +kernel
    show (textFrom (k + 1) (acc ++ ((if k > 0 then ", " else "" : String) : Str) ++ t) ts).length ≤ _
    omega
theorem sml_list {n m : Nat} {ds : List PyData} (h : ∀ d ∈ ds, Sml n m d) : Sml (2 + ds.length * (n + 2)) (m + 1) (.list ds) := by
  obtain ⟨a, b, c, d, e⟩ := all_small h
  refine ⟨a, b, Nat.succ_le_succ c, ?_, d⟩
  show (listText (PyData.shownAll ds)).length ≤ _
  unfold listText
  rw [strLen_append]
  have := textFrom_le (PyData.shownAll ds) 0 "["
  have e1 : ((("[" : String) : Str)).length = 1 := rfl
  have e2 : ((("]" : String) : Str)).length = 1 := rfl
  omega
theorem sml_tup {n m : Nat} {ds : List PyData} (h : ∀ d ∈ ds, Sml n m d) : Sml (2 + ds.length * (n + 2)) (m + 1) (.tuple ds) := by
  obtain ⟨a, b, c, d, e⟩ := all_small h
  refine ⟨a, b, Nat.succ_le_succ c, ?_, d⟩
  show (tupleText (PyData.shownAll ds)).length ≤ _
  have := fmt_text (PyData.shownAll ds)
  omega
theorem sml_shw {K : PySem.W.Frag} {H : Hp} {v : V} {d : PyData} {n m : Nat} (h : Dp K H v d) (s : Sml n m d) (hm : m ≤ 60) (hn : n + 1000 ≤ sizeLine) : Shw K H v := by
  cases h with
  | non => exact Or.inr (Or.inr (Or.inl rfl))
  | bl b => exact Or.inr (Or.inr (Or.inr (Or.inl ⟨b, rfl⟩)))
  | int i => exact Or.inl ⟨i, rfl, of_decide_eq_true s.sh⟩
  | str x => exact Or.inr (Or.inl ⟨x, rfl, by have := s.ln; show (PyData.shown (.str x)).length + 1000 ≤ _; omega⟩)
  | lst a b => exact Or.inr (Or.inr (Or.inr (Or.inr (Or.inl ⟨_, _, rfl, .lst a b, s.sh, s.nd, Nat.le_trans s.dp hm, by have := s.ln; omega⟩))))
  | tup a b => exact Or.inr (Or.inr (Or.inr (Or.inr (Or.inl ⟨_, _, rfl, .tup a b, s.sh, s.nd, Nat.le_trans s.dp hm, by have := s.ln; omega⟩))))
/-! ### exceptions made, by what is told of them -/
def RMk0 (C : Addr) (H : Hp) (Q : VK) : Prop := ∀ a, H a = none → Q (.ref a) (upd H a (exo a C none))
def tMk0 (C : Addr) (te : TE) : TE := fun σ H Q => te σ H fun _ H1 => RMk0 C H1 Q
def RMkI (K : PySem.W.Frag) (C : Addr) (f : Str) (v : V) (H : Hp) (Q : VK) : Prop := ∀ a, H a = none → Shw K (upd H a (exo a C none)) v ∧ ∀ dx, H dx = none → dx ≠ a → Q (.ref a) (upd (upd H dx (exd dx [(f, v)])) a (exo a C (some dx)))
def tMkI (K : PySem.W.Frag) (C : Addr) (f : Str) (te : TE) : TE := fun σ H Q => te σ H fun v H1 => RMkI K C f v H1 Q
section
variable {X : Cx} {B newId initId : String} {tl : List Value} {C fI : Addr} {k : Nat} {fd : FuncData} {me pn f x : Str} {e : Expr} {te : TE} {p pos : Pos}
theorem pe_mkI (T : OexB B newId initId tl X.K C) (iC : PySem.W.findIn X.K (.ref C) "__init__" = some (some (.ref fI))) (tI : PySem.W.typeIn X.K (.ref fI) = some (.type "function"))
    (F : FnG X.prog X.w X.K X.mg X.base CX0 k fI fd [me, pn] (spInit C f X.K)) (room : RoomG (k + 1) X.A) (hb : Binds X.K fd [me, pn] []) (hg : Gl X x) (hm : X.mg x = some (.ref C)) (he : PE X e te)
    (hs : starEach [e] X.env = (false, eval e X.env) :: starEach [] X.env := by rfl) (hdb : (x == ("__debug__" : Str)) = false := by decide) : PE X (.Call (.Name x p) [e] [] pos) (tMkI X.K C f te) := pe_makeI T iC tI F room hb hg hm he hs hdb
theorem pe_mk0 {bmB : List Value} {iI : String} (F : ExcBaseFacts B newId iI bmB) (q : PySem.W.excIn X.K C bmB newId = true) (gC : X.mg x = some (.ref C)) (kC : PySem.W.keepIn X.K (.ref C) = true) (hg : Gl X x) (he : PE X e te)
    (hs : starEach [e] X.env = (false, eval e X.env) :: starEach [] X.env := by rfl) (hdb : (x == ("__debug__" : Str)) = false := by decide) : PE X (.Call (.Name x p) [e] [] pos) (tMk0 C te) := pe_make0 F q gC kC hg he hs hdb
end
section
variable {K : PySem.W.Frag} {H : Hp} {C : Addr} {f : Str} {v : V} {Q : VK} {σ : L2.St} {te : TE}
theorem s_mk0 (q : te σ H fun _ H1 => RMk0 C H1 Q) : tMk0 C te σ H Q := q
theorem s_mkI (q : te σ H fun v H1 => RMkI K C f v H1 Q) : tMkI K C f te σ H Q := q
theorem l_mk0 (k : ∀ a J, H a = none → Same H J → XAt J a C none [] → Q (.ref a) J) : RMk0 C H Q :=
  fun a n => k a _ n (Same.upd0 n) (xat_exo0 upd_same)
theorem l_mkI (sh : Shw K H v) (k : ∀ a d J, H a = none → Same H J → XAt J a C (some d) [(f, v)] → Q (.ref a) J) : RMkI K C f v H Q := fun a n =>
  ⟨shw_u sh a _ n, fun dx nd ne => k a dx _ n ((Same.upd0 nd).trans (Same.upd0 (by rw [upd_ne (Ne.symm ne)]; exact n))) (xat_exo upd_same (by rw [upd_ne ne, upd_same]))⟩
end
end G9

/-! Texts: isascii, islower; small letters told by them. -/
namespace G9
open PySem PySem.Spec PyProof.Rows L2
section
variable {X : Cx}
theorem mt_isascii : MtR X "str.isascii" (fun x xs H Q => ∃ a, x = .str a ∧ xs = [] ∧ True ∧ Q (.bl (Txt.isascii a)) H) :=
  mt0 (C := fun _ => True) (g := fun a => .bl (Txt.isascii a)) fun _ _ s _ _ h => PySem.SC.isascii (h _ s.toks rfl)
theorem mt_islower : MtR X "str.islower" (fun x xs H Q => ∃ a, x = .str a ∧ xs = [] ∧ True ∧ Q (.bl (Txt.islower a)) H) :=
  mt0 (C := fun _ => True) (g := fun a => .bl (Txt.islower a)) fun _ _ s _ _ h => PySem.SC.islower (h _ s.toks rfl)
def rTold (f : Str → Bool) : V → List V → Hp → VK → Prop := fun x xs H Q => ∃ a, x = .str a ∧ xs = [] ∧ True ∧ Q (.bl (f a)) H
def tToldM (f : Str → Bool) (to : TE) : TE := tM0 (rTold f) to
section
variable {σ : L2.St} {H : Hp} {to : TE} {Q : VK} {f : Str → Bool}
theorem s_told (q : to σ H fun x H1 => ∃ a, x = .str a ∧ Q (.bl (f a)) H1) (mono : ∀ (R R' : VK), (∀ v G, R v G → R' v G) → to σ H R → to σ H R') : tM0 (rTold f) to σ H Q := by
  refine mono _ _ (fun v G h => ?_) q
  obtain ⟨a, rfl, q⟩ := h
  exact ⟨⟨a, rfl⟩, a, rfl, rfl, trivial, q⟩
theorem l_told {i : Nat} {a : Str} (h : σ[i]? = some (some (.str a))) (q : Q (.bl (f a)) H) : tM0 (rTold f) (tVar i) σ H Q := ⟨_, h, ⟨a, rfl⟩, a, rfl, rfl, trivial, q⟩
end
end
theorem _root_.List.all_congr_of {α : Type} {f g : α → Bool} : ∀ {l : List α}, (∀ x ∈ l, f x = g x) → l.all f = l.all g
  | [], _ => rfl
  | x :: l, h => by rw [List.all_cons, List.all_cons, h x List.mem_cons_self, List.all_congr_of fun y hy => h y (List.mem_cons_of_mem _ hy)]
theorem _root_.List.any_congr_of {α : Type} {f g : α → Bool} : ∀ {l : List α}, (∀ x ∈ l, f x = g x) → l.any f = l.any g
  | [], _ => rfl
  | x :: l, h => by rw [List.any_cons, List.any_cons, h x List.mem_cons_self, List.any_congr_of fun y hy => h y (List.mem_cons_of_mem _ hy)]
theorem ascii_alpha : ∀ c : Fin 128, Unicode.isAlpha c.val = (decide (65 ≤ c.val ∧ c.val ≤ 90) || decide (97 ≤ c.val ∧ c.val ≤ 122)) := by decide +kernel
theorem ascii_lower : ∀ c : Fin 128, Unicode.isLower c.val = decide (97 ≤ c.val ∧ c.val ≤ 122) := by decide +kernel
theorem ascii_upper : ∀ c : Fin 128, (Unicode.isUpper c.val || Unicode.isTitle c.val) = decide (65 ≤ c.val ∧ c.val ≤ 90) := by decide +kernel
theorem isascii_of {s : Str} (h : ∀ c ∈ s.cps.toList, c < 128) : Txt.isascii s = true := by
  unfold Txt.isascii
  rw [← Array.all_toList, List.all_eq_true]
  intro c hc
  exact decide_eq_true (h c hc)
def smallC (c : Nat) : Bool := decide (97 ≤ c) && decide (c ≤ 122)
theorem small_told {s : Str} (h : ∀ c ∈ s.cps.toList, c < 128) (n : 1 ≤ s.length) : (Txt.isalpha s && Txt.islower s) = s.cps.toList.all smallC := by
  have hl : s.cps.toList ≠ [] := by
    intro e
    have : s.cps.toList.length = 0 := by rw [e]; rfl
    rw [Array.length_toList] at this
    have n' : 1 ≤ s.cps.size := n
    omega
  have ea : Txt.isalpha s = s.cps.toList.all fun c => decide (65 ≤ c ∧ c ≤ 90) || decide (97 ≤ c ∧ c ≤ 122) := by
    unfold Txt.isalpha
    rw [decide_eq_true (show s.length > 0 from n), Bool.true_and, ← Array.all_toList]
    exact List.all_congr_of fun c hc => ascii_alpha ⟨c, h c hc⟩
  have el : Txt.islower s = (s.cps.toList.any (fun c => decide (97 ≤ c ∧ c ≤ 122)) && !s.cps.toList.any fun c => decide (65 ≤ c ∧ c ≤ 90)) := by
    unfold Txt.islower
    rw [← Array.any_toList, ← Array.any_toList]
    rw [List.any_congr_of (f := Unicode.isLower) (g := fun c => decide (97 ≤ c ∧ c ≤ 122)) fun c hc => ascii_lower ⟨c, h c hc⟩, List.any_congr_of (f := fun c => Unicode.isUpper c || Unicode.isTitle c) (g := fun c => decide (65 ≤ c ∧ c ≤ 90)) fun c hc => ascii_upper ⟨c, h c hc⟩]
  rw [ea, el]
  generalize s.cps.toList = l at hl
  rw [Bool.eq_iff_iff]
  simp only [Bool.and_eq_true, List.all_eq_true, Bool.or_eq_true, decide_eq_true_eq, List.any_eq_true, Bool.not_eq_true', List.any_eq_false, smallC]
  constructor
  · rintro ⟨a, _, u⟩ c hc
    rcases a c hc with q | q
    · exact absurd q (u c hc)
    · exact q
  · intro a
    refine ⟨fun c hc => Or.inr (a c hc), ?_, fun c hc q => ?_⟩
    · cases l with
      | nil => exact absurd rfl hl
      | cons c r => exact ⟨c, List.mem_cons_self, a c List.mem_cons_self⟩
    · have := a c hc
      omega
end G9

/-! Own classes: methods, properties, operators that call defs of the class; all in surroundings without a repr under way. -/
namespace G9
open PySem PySem.Spec PyProof.Rows L2
theorem rv_ref (a : Addr) : RelV (.ref a) (.ref a) := rfl
theorem RoomG.in1 {k : Nat} {A : Around} (h : RoomG (k + 1) A) : RoomG k A.in1 := ⟨h.r.in1, h.g⟩
section
variable {X : Cx} {CX : CXT} {k : Nat} {f C : Addr} {fd : FuncData} {ps : List Str} {sp : Sp} {dvs : List V} {ds : List Value} {E : XK} {m : Str} {pos apos : Pos} {e o : Expr} {es : List Expr} {ta tb : TE} {t : TA}
/-- the def f is called somewhere below the running body -/
theorem calleeA {A : Around} {pins : List (Addr × Obj)} {σ : L2.St} {H : Hp} {s : Shared} {Q : VK} {us : List Value} {vs : List V} (fr : A.frames = X.A.frames) (F : FnG X.prog X.w X.K X.mg X.base CX k f fd ps sp) (room : RoomG k A)
    (hb : Binds X.K fd ps ds) (hd : Vals dvs ds) (hx : Passes CX X E) (I : Inv X pins σ H s) (r : Vals vs us) (want : sp (vs ++ dvs) H Q E) : wpAny (model X.prog X.w) A (call (.ref f) us) (EP X pins σ Q) X.xe s := by
  have rr : Vals (vs ++ dvs) (us ++ ds) := r.append hd
  have len : (us ++ ds).length = ps.length := rr.length.symm.trans (F.count _ _ _ _ want)
  have e0 := I.env0
  have e1 : Env0 X.prog X.w X.K X.mg X.base A X.stack s H := ⟨by rw [fr]; exact e0.frames, e0.mod, e0.bs, e0.bsz, e0.funs, e0.frf, e0.hok, e0.bare⟩
  refine wpAny_call (codeAny_mono (F.goes A X.stack s H ⟨us, []⟩ (us ++ ds) (vs ++ dvs) Q E room e1 (hb s us I.kIn len) rr want) fun res z hz => ?_)
  match res, hz with
  | .error er, hz => exact hx pins σ H s er z I hz
  | .ok (.ret u), hz => exact I.after hz

/-- a def of the class under a name with two underscores at each end -/
structure Dun (K : PySem.W.Frag) (C : Addr) (n : Str) (f : Addr) : Prop where
  here : PySem.W.findIn K (.ref C) n = some (some (.ref f))
  isf : PySem.W.isFn K (.ref f) = true
/-- the object x, an instance of C, and what the def promises of it and further values -/
def OwnCall (C : Addr) (sp : Sp) (E : XK) (x : V) (args : List V) (H : Hp) (Q : VK) : Prop := ∃ (a dx : Addr) (fs : List (Str × V)), x = .ref a ∧ H a = some (.ins C dx fs) ∧ sp (.ref a :: args) H Q E
theorem OwnCall.mk {x : V} {args : List V} {H : Hp} {Q : VK} {a dx : Addr} {fs : List (Str × V)} (ea : H a = some (.ins C dx fs)) (q : sp (.ref a :: args) H Q E) : OwnCall C sp E (.ref a) args H Q := ⟨a, dx, fs, rfl, ea, q⟩
def YesNo (Q : VK) : VK := fun v H => ∃ b, v = .bl b ∧ Q (.bl b) H
def rOwnIn (C : Addr) (sp : Sp) (E : XK) : R2 := fun y x H Q => OwnCall C sp E x [y] H (YesNo Q)
def rOwnNin (C : Addr) (sp : Sp) (E : XK) : R2 := fun y x H Q => OwnCall C sp E x [y] H fun v G => ∃ b, v = .bl b ∧ Q (.bl (!b)) G
theorem op_ownIn (D : Dun X.K C "__contains__" f) (F : FnG X.prog X.w X.K X.mg X.base CX k f fd ps sp) (room : RoomG k X.A) (hb : Binds X.K fd ps []) (hx : Passes CX X E) : OpR X (compareOp .In) (rOwnIn C sp E) := by
  intro pins s σ H y x u v Q I ry rx h
  obtain ⟨a, dx, fs, rfl, ea, q⟩ := h
  obtain rfl : v = Value.ref a := rx
  obtain ⟨mA, O, _⟩ := ins_get I.hok ea
  obtain ⟨od, J, _⟩ := O.look
  obtain ⟨mF, hF⟩ := I.fr
  refine PySem.W.in_K hF I.ok.mod.kin J D.here D.isf (thn (calleeA rfl F room hb .nil hx I (.cons (rv_ref a) (.cons ry .nil)) q) fun r z hz => ?_)
  obtain ⟨w1, H1, I1, rw1, b, rfl, q1⟩ := hz
  obtain rfl : r = Value.bool b := rw1
  exact wpAny_truthy_bool ⟨.bl b, H1, I1, rfl, q1⟩
theorem op_ownNin (D : Dun X.K C "__contains__" f) (F : FnG X.prog X.w X.K X.mg X.base CX k f fd ps sp) (room : RoomG k X.A) (hb : Binds X.K fd ps []) (hx : Passes CX X E) : OpR X (compareOp .NotIn) (rOwnNin C sp E) := by
  intro pins s σ H y x u v Q I ry rx h
  obtain ⟨a, dx, fs, rfl, ea, q⟩ := h
  obtain rfl : v = Value.ref a := rx
  obtain ⟨mA, O, _⟩ := ins_get I.hok ea
  obtain ⟨od, J, _⟩ := O.look
  obtain ⟨mF, hF⟩ := I.fr
  refine PySem.W.notIn_K hF I.ok.mod.kin J D.here D.isf (thn (calleeA rfl F room hb .nil hx I (.cons (rv_ref a) (.cons ry .nil)) q) fun r z hz => ?_)
  obtain ⟨w1, H1, I1, rw1, b, rfl, q1⟩ := hz
  obtain rfl : r = Value.bool b := rw1
  exact wpAny_truthy_bool ⟨.bl (!b), H1, I1, rfl, q1⟩
/-- x[i] -/
def rOwnAt (C : Addr) (sp : Sp) (E : XK) : R2 := fun x i H Q => OwnCall C sp E x [i] H Q
theorem pe_ownAt {a b : Expr} (D : Dun X.K C "__getitem__" f) (hfi : PySem.W.fnIn X.K f = true) (F : FnG X.prog X.w X.K X.mg X.base CX k f fd ps sp) (room : RoomG (k + 1) X.A) (hb : Binds X.K fd ps []) (hx : Passes CX X E) (ha : PE X a ta) (hi : PE X b tb)
    (hsl : ∀ u v : Value, subscripted b true u v = runValue (.builtin "lifetime.subscript" ⟨[u, v], []⟩) := by intro _ _; rfl) : PE X (.Subscript a b pos) (tOp (rOwnAt C sp E) ta tb) := by
  constructor
  intro pins s σ H Q I h
  refine Subscript_ (binT ha hi I h fun u v z x y G J rx ry q => ?_)
  obtain ⟨c, dx, fs, rfl, ea, q⟩ := q
  obtain rfl : u = Value.ref c := rx
  obtain ⟨mA, O, _⟩ := ins_get J.hok ea
  obtain ⟨od, JJ, _⟩ := O.look
  obtain ⟨mF, hF⟩ := J.fr
  exact PySem.W.sub_K hF J.ok.mod.kin JJ D.here hfi D.isf (calleeA (A := X.A.in1) rfl F room.in1 hb .nil hx J (.cons (rv_ref c) (.cons ry .nil)) q) (hsl _ _)
theorem not_ni {v : V} {u : Value} {Q : Value → Shared → Prop} {z : Shared} (r : RelV v u) (q : Q u z) : PySem.W.CmpBack Q u z := by
  cases v with
  | non =>
    obtain rfl : u = Value.none := r
    exact q
  | bl b =>
    obtain rfl : u = Value.bool b := r
    exact q
  | int i =>
    obtain ⟨_, rfl⟩ := r
    exact q
  | str i =>
    obtain ⟨_, rfl⟩ := r
    exact q
  | byt i =>
    obtain ⟨_, rfl⟩ := r
    exact q
  | flt i =>
    obtain ⟨_, rfl⟩ := r
    exact q
  | ref i =>
    obtain rfl : u = Value.ref i := r
    exact q
  | ty i =>
    obtain rfl : u = Value.type i := r
    exact q
/-- the type of a value, looked up -/
theorem looks_ty {pins : List (Addr × Obj)} {σ : L2.St} {H : Hp} {s : Shared} {x : V} {u t : Value} (I : Inv X pins σ H s) (rx : RelV x u) (ty : TyX X.K H x t) : PySem.W.Looks (model X.prog X.w) s.heap (typeOf u) t := by
  have obj : ∀ {a : Addr} {ob : Obj} {c : Value}, s.heap.get? a = some ob → ob.cls = c → PySem.W.Looks (model X.prog X.w) s.heap (typeOf (.ref a)) c := by
    intro a ob c e1 e2 A E Q z kz q
    exact wpAny_typeOf_ref (kz _ _ e1) (by rw [e2]; exact q)
  cases ty with
  | base b =>
    cases b with
    | non =>
      obtain rfl : u = Value.none := rx
      exact .of_pure rfl
    | bl y =>
      obtain rfl : u = Value.bool y := rx
      exact .of_pure rfl
    | int i =>
      obtain ⟨_, rfl⟩ := rx
      exact .of_pure rfl
    | str i =>
      obtain ⟨_, rfl⟩ := rx
      exact .of_pure rfl
    | flt i =>
      obtain ⟨_, rfl⟩ := rx
      exact .of_pure rfl
    | @lst a xs ea =>
      obtain rfl : u = Value.ref a := rx
      obtain ⟨_, _, n, _, h1⟩ := (show ObjOk X.prog X.w H s.heap a (.lst xs) from I.hok a _ ea)
      exact obj h1 rfl
    | @frz a ob xs ea =>
      obtain rfl : u = Value.ref a := rx
      obtain ⟨_, _, _, n, _, h1⟩ := (show ObjOk X.prog X.w H s.heap a (.frz ob (.lst xs)) from I.hok a _ ea)
      exact obj h1 rfl
    | @tup a xs ea =>
      obtain rfl : u = Value.ref a := rx
      obtain ⟨_, _, _, oo, h1, h2, _⟩ := (show ObjOk X.prog X.w H s.heap a (.tup xs) from I.hok a _ ea)
      exact obj h1 h2
    | @dK a kvs ea =>
      obtain rfl : u = Value.ref a := rx
      obtain ⟨_, _, vs, _, oo, es, ep, h1, h2, _⟩ := (show ObjOk X.prog X.w H s.heap a (.dK kvs) from I.hok a _ ea)
      exact obj h1 h2.1
    | @dT a kvs ea =>
      obtain rfl : u = Value.ref a := rx
      obtain ⟨_, _, xs, _, oo, es, ep, h1, h2, _⟩ := (show ObjOk X.prog X.w H s.heap a (.dT kvs) from I.hok a _ ea)
      exact obj h1 h2.1
    | @ins a C dx fs ea cl ha hn htk hm =>
      obtain rfl : u = Value.ref a := rx
      obtain ⟨mA, O, _⟩ := ins_get I.hok ea
      obtain ⟨od, J, _⟩ := O.look
      exact J.type
  | byt y =>
    obtain ⟨_, rfl⟩ := rx
    exact .of_pure rfl
  | @set a S n ea =>
    obtain rfl : u = Value.ref a := rx
    obtain ⟨oo, _, _, _, e1, ex, _⟩ := I.hok a _ ea
    exact obj e1 ex.1
  | @kList a oo e1 c =>
    obtain rfl : u = Value.ref a := rx
    exact obj (I.kIn a oo e1) c
  | @kTuple a oo e1 c =>
    obtain rfl : u = Value.ref a := rx
    exact obj (I.kIn a oo e1) c
  | @kDict a oo e1 c =>
    obtain rfl : u = Value.ref a := rx
    exact obj (I.kIn a oo e1) c
  | @fTuple a ob xs ea =>
    obtain rfl : u = Value.ref a := rx
    obtain ⟨_, _, _, _, oo, h1, h2, _⟩ := (show ObjOk X.prog X.w H s.heap a (.frz ob (.tup xs)) from I.hok a _ ea)
    exact obj h1 h2
  | @fDict a ob kvs ea =>
    obtain rfl : u = Value.ref a := rx
    obtain ⟨_, _, _, vs, _, oo, es, ep, h1, h2, _⟩ := (show ObjOk X.prog X.w H s.heap a (.frz ob (.dK kvs)) from I.hok a _ ea)
    exact obj h1 h2.1
/-- x == y, x of the class; y of any kind that no class of its own stands above -/
def rOwnEq (K : PySem.W.Frag) (C : Addr) (sp : Sp) (E : XK) : R2 := fun x y H Q => ∃ t, TyX K H y t ∧ PySem.W.notFirst K C t = true ∧ OwnCall C sp E x [y] H Q
theorem op_ownEq (D : Dun X.K C "__eq__" f) (F : FnG X.prog X.w X.K X.mg X.base CX k f fd ps sp) (room : RoomG k X.A) (hb : Binds X.K fd ps []) (hx : Passes CX X E) : OpR X (compareOp .Eq) (rOwnEq X.K C sp E) := by
  intro pins s σ H x y v u Q I rx ry h
  obtain ⟨t, ty, nf, a, dx, fs, rfl, ea, q⟩ := h
  obtain rfl : v = Value.ref a := rx
  obtain ⟨mA, O, _⟩ := ins_get I.hok ea
  obtain ⟨od, J, _⟩ := O.look
  obtain ⟨mF, hF⟩ := I.fr
  refine PySem.W.cmp_K (op := .Eq) (Nat.lt_of_le_of_lt (Nat.le_add_right _ _) room.r.units) hF I.ok.mod.kin J (looks_ty I ry ty) nf D.here D.isf (thn (calleeA rfl F room hb .nil hx I (.cons (rv_ref a) (.cons ry .nil)) q) fun r z hz => ?_)
  obtain ⟨w1, H1, I1, rw1, q1⟩ := hz
  exact not_ni rw1 ⟨w1, H1, I1, rw1, q1⟩
/-- len(x) -/
def rOwnLen (C : Addr) (sp : Sp) (E : XK) : List V → Hp → VK → Prop := fun xs H Q => ∃ x, xs = [x] ∧ OwnCall C sp E x [] H fun v G => ∃ n : Nat, v = .int n ∧ n < 2 ^ 62 ∧ Q (.int n) G
theorem call_ownLen (D : Dun X.K C "__len__" f) (F : FnG X.prog X.w X.K X.mg X.base CX k f fd ps sp) (room : RoomG (k + 1) X.A) (hb : Binds X.K fd ps []) (hx : Passes CX X E) : CallR X (.builtin "len") (rOwnLen C sp E) := by
  intro pins s σ H xs us Q I rs h
  obtain ⟨x, rfl, a, dx, fs, rfl, ea, q⟩ := h
  obtain ⟨u, rfl, r1⟩ := vals1 rs
  obtain rfl : u = Value.ref a := r1
  obtain ⟨mA, O, _⟩ := ins_get I.hok ea
  obtain ⟨od, J, _⟩ := O.look
  obtain ⟨mF, hF⟩ := I.fr
  refine PySem.W.len_K hF I.ok.mod.kin J D.here D.isf (thn (calleeA (A := X.A.in1) rfl F room.in1 hb .nil hx I (.cons (rv_ref a) .nil) q) fun r z hz => ?_)
  obtain ⟨w1, H1, I1, rw1, n, rfl, hn, q1⟩ := hz
  obtain ⟨tk, rfl⟩ := rw1
  exact ⟨⟨by omega, by omega⟩, .int n, H1, I1.tok _, ⟨_, rfl⟩, q1⟩
/-- str(x) -/
def rOwnStr (C : Addr) (sp : Sp) (E : XK) : List V → Hp → VK → Prop := fun xs H Q => ∃ x, xs = [x] ∧ OwnCall C sp E x [] H fun v G => ∃ y, v = .str y ∧ Q (.str y) G
theorem call_ownStr (D : Dun X.K C "__str__" f) (F : FnG X.prog X.w X.K X.mg X.base CX k f fd ps sp) (room : RoomG (k + 2) X.A) (hb : Binds X.K fd ps []) (hx : Passes CX X E) : CallR X (.type "str") (rOwnStr C sp E) := by
  intro pins s σ H xs us Q I rs h
  obtain ⟨x, rfl, a, dx, fs, rfl, ea, q⟩ := h
  obtain ⟨u, rfl, r1⟩ := vals1 rs
  obtain rfl : u = Value.ref a := r1
  obtain ⟨mA, O, _⟩ := ins_get I.hok ea
  obtain ⟨od, J, _⟩ := O.look
  refine PySem.W.kso_call (Nat.lt_of_le_of_lt (Nat.le_add_right _ _) room.in1.in1.r.units) I.kIn J D.here D.isf (thn (calleeA (A := X.A.in1.in1) rfl F room.in1.in1 hb .nil hx I (.cons (rv_ref a) .nil) q) fun r z hz => ?_)
  obtain ⟨w1, H1, I1, rw1, y, rfl, q1⟩ := hz
  obtain ⟨tk, rfl⟩ := rw1
  exact ⟨.str y, H1, I1, ⟨_, rfl⟩, q1⟩
/-- x op y, both of the class -/
def rOwnBin (C : Addr) (sp : Sp) (E : XK) : R2 := fun x y H Q => ∃ (b dy : Addr) (gs : List (Str × V)), y = .ref b ∧ H b = some (.ins C dy gs) ∧ OwnCall C sp E x [y] H Q
theorem op_ownBin {op : Operator} (hc : PySem.W.selfFirst X.K C = true) (D : Dun X.K C (PySem.dunder op.info.2) f) (F : FnG X.prog X.w X.K X.mg X.base CX k f fd ps sp) (room : RoomG k X.A) (hb : Binds X.K fd ps []) (hx : Passes CX X E) : OpR X (binaryOp op) (rOwnBin C sp E) := by
  intro pins s σ H x y v u Q I rx ry h
  obtain ⟨b, dy, gs, rfl, eb, a, dx, fs, rfl, ea, q⟩ := h
  obtain rfl : v = Value.ref a := rx
  obtain rfl : u = Value.ref b := ry
  obtain ⟨mA, O, _⟩ := ins_get I.hok ea
  obtain ⟨od, J, _⟩ := O.look
  obtain ⟨mB, O2, _⟩ := ins_get I.hok eb
  obtain ⟨od2, J2, _⟩ := O2.look
  obtain ⟨mF, hF⟩ := I.fr
  refine PySem.W.binop_K hF I.ok.mod.kin J J2.type hc D.here D.isf (thn (calleeA rfl F room hb .nil hx I (.cons (rv_ref a) (.cons (rv_ref b) .nil)) q) fun r z hz => ?_)
  obtain ⟨w1, H1, I1, rw1, q1⟩ := hz
  exact not_ni rw1 ⟨w1, H1, I1, rw1, q1⟩
/-- x.m(e, ..) -/
def tOwnM (C : Addr) (m : Str) (sp : Sp) (E : XK) (ta : TE) (t : TA) : TE := fun σ H Q => ta σ H fun x H1 => ∃ (a dx : Addr) (fs : List (Str × V)), x = .ref a ∧ H1 a = some (.ins C dx fs) ∧ fs.lookup m = none ∧ t σ H1 fun vs H2 => sp (.ref a :: vs) H2 Q E
theorem pe_methG {pl : Sem Bool} (he : PE X o ta) (c : Cls X.K C) (M : Meth X.K C m f) (F : FnG X.prog X.w X.K X.mg X.base CX k f fd ps sp) (room : RoomG k X.A) (hb : Binds X.K fd ps []) (hx : Passes CX X E) (ha : PA X (e :: es) t)
    (hst : starEach (e :: es) X.env = (false, eval e X.env) :: starEach es X.env := by rfl) (hpl : (backTo pos (starEach es X.env)).any (·.1) = false := by rfl)
    (ht : eval (.Call (.Attribute o m apos) (e :: es) [] pos) X.env = (do
      let ov ← eval o X.env
      standAt apos.atName
      let (g, first) ← holding [ov] (getMethod ov m pl)
      callWith pos g first (backTo pos (starEach (e :: es) X.env)) (backToKw pos (keywordEach [] X.env))) := by rfl) : PE X (.Call (.Attribute o m apos) (e :: es) [] pos) (tOwnM C m sp E ta t) := by
  constructor
  intro pins s σ H Q I h
  refine PySem.W.methodCall_KW (pl := pl) (thn (he.run pins s σ H _ I h) fun u z ⟨x, G, J, rx, a, dx, fs, ex, ea, l, q⟩ => ?_) ht
  subst ex
  obtain rfl : u = Value.ref a := rx
  refine getmeth_ok J ea c M l (PySem.W.callWith_K (first := [.ref a]) (h₀ := X.base) J.ok.mod.kin M.kp (thn (ha.run pos pins z σ G _ J q) fun us z2 ⟨vs, G2, J2, r2, q2⟩ => ⟨J2.kIn, ?_⟩) hst hpl)
  have q3 : sp ((.ref a :: vs) ++ []) G2 Q E := by rw [List.append_nil]; exact q2
  exact calleeA (us := .ref a :: us) (vs := .ref a :: vs) rfl F room hb .nil hx J2 (.cons rfl r2) q3
theorem pe_methG0 {pl : Sem Bool} (he : PE X o ta) (c : Cls X.K C) (M : Meth X.K C m f) (F : FnG X.prog X.w X.K X.mg X.base CX k f fd ps sp) (room : RoomG k X.A) (hb : Binds X.K fd ps []) (hx : Passes CX X E)
    (ht : eval (.Call (.Attribute o m apos) [] [] pos) X.env = (do
      let ov ← eval o X.env
      standAt apos.atName
      let (g, first) ← holding [ov] (getMethod ov m pl)
      callWith pos g first (backTo pos (starEach [] X.env)) (backToKw pos (keywordEach [] X.env))) := by rfl) : PE X (.Call (.Attribute o m apos) [] [] pos) (tOwnM C m sp E ta tNil) := by
  constructor
  intro pins s σ H Q I h
  refine PySem.W.methodCall_KW (pl := pl) (thn (he.run pins s σ H _ I h) fun u z ⟨x, G, J, rx, a, dx, fs, ex, ea, l, q⟩ => ?_) ht
  subst ex
  obtain rfl : u = Value.ref a := rx
  refine getmeth_ok J ea c M l (PySem.W.callWith_K0 (first := [.ref a]) J.kIn M.kp ?_)
  exact calleeA (us := [.ref a]) (vs := [.ref a]) rfl F room hb .nil hx J (.cons rfl .nil) q
/-- x.n, n a property -/
def tOwnP (C : Addr) (sp : Sp) (E : XK) (ta : TE) : TE := fun σ H Q => ta σ H fun x H1 => OwnCall C sp E x [] H1 Q
theorem pe_propG {p : Addr} {n : Str} (he : PE X e ta) (c : Cls X.K C) (P : PropOf X.K C n p f) (F : FnG X.prog X.w X.K X.mg X.base CX k f fd ps sp) (room : RoomG (k + 1) X.A) (hb : Binds X.K fd ps []) (hx : Passes CX X.nox E)
    (hab : attributeBase e n X.env (eval e X.env) = eval e X.env := by rfl) : PE X (.Attribute e n pos) (tOwnP C sp E ta) := by
  constructor
  intro pins s σ H Q I h
  refine attr_of hab (thn (he.run pins s σ H _ I h) fun u z ⟨x, G, J, rx, a, dx, fs, ex, ea, q⟩ => ?_)
  subst ex
  obtain rfl : u = Value.ref a := rx
  obtain ⟨mA, O, _, _, _, _⟩ := ins_get J.hok ea
  obtain ⟨od, JJ, _⟩ := O.look
  obtain ⟨rest, hrec⟩ := P.rec_
  have J1 := J.tok (z.toks + 1)
  have hc : (PySem.W.clsIn X.K C).isSome = true := by
    obtain ⟨cd, hcd, _⟩ := PySem.W.any_some c.hd
    rw [hcd]
    rfl
  refine PySem.W.get_bind J.kIn JJ (PySem.W.plainGet_of (c.get n)).1 (PySem.W.findObj_data hc P.at_ P.get P.tak) (PySem.W.plainGet_of (c.get n)).2 (wpAny_call (PySem.W.prop_get (s := { z with toks := z.toks + 1 }) J.kIn hrec ?_))
  have len : [Value.ref a].length = ps.length := (F.count _ _ _ _ q)
  have bd := hb { z with toks := z.toks + 1 } [.ref a] J1.kIn (by simpa using len)
  refine codeAny_mono (F.goes X.A.in1 X.stack { z with toks := z.toks + 1 } G ⟨[.ref a], []⟩ [.ref a] [.ref a] Q E room.in1 J1.env0.in1 (by simpa using bd) (.cons rfl .nil) q) fun r z' hz => ?_
  match r, hz with
  | .error er, hz => exact False.elim (hx pins σ G { z with toks := z.toks + 1 } er z' (J1.wish _) hz)
  | .ok (.ret w1), hz =>
    obtain ⟨v, G2, J2, rv, q2⟩ := J1.after hz
    show wpAny _ _ (handedOut w1) _ _ _
    rw [PySem.W.handedOut_of (handed_of rv)]
    exact wpAny_pure ⟨v, G2, J2, rv, q2⟩
end
end G9

/-! Calls with keywords that a def takes as a dict of its own. -/
namespace G9
open PySem PySem.Spec PyProof.Rows L2
theorem push_then (h : Heap) (o : Obj) (f : Obj → Obj) : (h.push o).update h.objs.size f = h.push (f o) := by
  obtain ⟨objs, life⟩ := h
  simp only [Heap.update, Heap.push, Heap.mk.injEq, and_true]
  apply Array.ext_getElem?
  intro i
  simp only [Array.getElem?_modify, Array.getElem?_push]
  by_cases h1 : objs.size = i
  · subst h1
    simp
  · have h2 : ¬ i = objs.size := fun e => h1 e.symm
    simp [h1, h2]
abbrev dOf (es : List DictEntry) (n : Nat) : Obj := PySem.W.dictOf es n
theorem at_push (h : Heap) (es : List DictEntry) (n : Nat) : (h.push (dOf es n)).get? h.objs.size = some (dOf es n) := Heap.get?_push_size h rfl
section
variable {prog : Program} {w : World} {A : Around} {E : Value → Shared → Prop}
/-- a name is stored into a dict that was laid just now -/
theorem nsSet_laid {s : Shared} {h0 : Heap} {es : List DictEntry} {n : Nat} {k : Str} {v : Value} {Q : Unit → Shared → Prop} (hh : s.heap = h0.push (dOf es n)) (other : ∀ e ∈ es, e.key.isStr k = false) (plain : ∀ e ∈ es, e.refKey = false)
    (q : Q () { s with heap := h0.push (dOf (es ++ [⟨PyData.keyHash w.params k, .str k s.toks, v⟩]) (n + 1)), toks := s.toks + 1 }) : wpAny (model prog w) A (nsSet h0.objs.size k v) Q E s := by
  have a1 : es.any (·.key.isStr k) = false := by
    rw [List.any_eq_false]
    intro e he z
    rw [other e he] at z
    cases z
  have a2 : es.any (·.refKey) = false := by
    rw [List.any_eq_false]
    intro e he z
    rw [plain e he] at z
    cases z
  have made : Obj.putName k (PyData.keyHash w.params k) (.str k s.toks) v (dOf es n) = dOf (es ++ [⟨PyData.keyHash w.params k, .str k s.toks, v⟩]) (n + 1) := by
    refine (PySem.W.putName_dict ..).trans ?_
    rw [PySem.W.putL_new other]
    show PySem.W.dictOf _ (if es.any (·.key.isStr k) then n else n + 1) = _
    rw [a1]
    rfl
  have free : aRefKeyMayBeTheName k es.toArray = false := by
    rw [aRefKeyMayBeTheName_at]
    rw [← Array.any_toList, ← Array.any_toList]
    show (!es.any (·.key.isStr k) && es.any (·.refKey)) = false
    rw [a2]
    exact Bool.and_false _
  have there : s.heap.get? h0.objs.size = some (dOf es n) := by
    rw [hh]
    exact at_push _ _ _
  unfold nsSet
  refine wpAny_bind (wpAny_bind (wpAny_askSetting (wpAny_pure ?_)))
  refine wpAny_bind (wpAny_mkText (wpAny_bind (wpAny_loadPart there ?_)))
  dsimp only
  rw [free]
  refine wpAny_updatePart there ?_
  show Q () { s with heap := s.heap.update h0.objs.size _, toks := s.toks + 1 }
  rw [hh, push_then]
  show Q () { s with heap := h0.push (Obj.putName k (PyData.keyHash w.params k) (.str k s.toks) v (dOf es n)), toks := s.toks + 1 }
  rw [made]
  exact q
/-- all the names, one after the other -/
theorem fill_laid {h0 : Heap} {Q : PUnit → Shared → Prop} : ∀ (ex : List (Str × Value)) (s : Shared) (es : List DictEntry) (n : Nat), s.heap = h0.push (dOf es n) → (∀ e ∈ es, ∀ x ∈ ex, e.key.isStr x.1 = false) → (∀ e ∈ es, e.refKey = false) → (ex.map (·.1)).Nodup →
    Q ⟨⟩ { s with heap := h0.push (dOf (es ++ PySem.W.kwEs w.params s.toks ex) (n + ex.length)), toks := s.toks + ex.length } →
    wpAny (model prog w) A (forIn ex PUnit.unit fun x _ => (nsSet h0.objs.size x.1 x.2 >>= fun _ => pure (ForInStep.yield PUnit.unit))) Q E s
  | [], s, es, n, hh, _, _, _, q => by
    rw [List.forIn_nil]
    refine wpAny_pure ?_
    have e : ({ s with heap := h0.push (dOf (es ++ PySem.W.kwEs w.params s.toks []) (n + 0)), toks := s.toks + 0 } : Shared) = s := by
      show ({ s with heap := h0.push (dOf (es ++ []) n), toks := s.toks } : Shared) = s
      rw [List.append_nil, ← hh]
    exact e ▸ q
  | x :: r, s, es, n, hh, other, plain, nd, q => by
    obtain ⟨n1, n2⟩ := List.nodup_cons.mp (show (x.1 :: r.map (·.1)).Nodup from nd)
    rw [List.forIn_cons]
    refine wpAny_bind (wpAny_bind (nsSet_laid hh (fun e he => other e he x List.mem_cons_self) plain (wpAny_pure ?_)))
    refine fill_laid r _ _ _ rfl (fun e he y hy => ?_) (fun e he => ?_) n2 ?_
    · rcases List.mem_append.mp he with h | h
      · exact other e h y (List.mem_cons_of_mem _ hy)
      · obtain rfl := List.mem_singleton.mp h
        show (x.1 == y.1) = false
        refine beq_eq_false_iff_ne.mpr fun z => n1 ?_
        rw [z]
        exact List.mem_map_of_mem hy
    · rcases List.mem_append.mp he with h | h
      · exact plain e h
      · obtain rfl := List.mem_singleton.mp h
        rfl
    · have e1 : n + 1 + r.length = n + (x :: r).length := by rw [List.length_cons]; omega
      have e2 : s.toks + 1 + r.length = s.toks + (x :: r).length := by rw [List.length_cons]; omega
      show Q ⟨⟩ { s with heap := h0.push (dOf ((es ++ [_]) ++ PySem.W.kwEs w.params (s.toks + 1) r) (n + 1 + r.length)), toks := s.toks + 1 + r.length }
      rw [e1, e2, List.append_assoc]
      exact q
end
/-- the keywords' dict, told -/
def kwV (ks : List Str) (zs : List V) : List (Key × V) := (ks.zip zs).map fun p => (Sum.inr p.1, p.2)
theorem kw_pairs {P : Program} {w : World} : ∀ {ks : List Str} {ws : List Value} (t : Tok), Pairs (mixKind P w) (PySem.W.kwEs w.params t (ks.zip ws)) ((ks.zip ws).map fun p => (Sum.inr p.1, p.2))
  | [], ws, t => by
    rw [List.zip_nil_left]
    exact .nil
  | k :: ks, [], t => by
    rw [List.zip_nil_right]
    exact .nil
  | k :: ks, u :: ws, t => by
    rw [List.zip_cons_cons]
    exact .cons (keyIs_str k t) rfl (kw_pairs (t + 1))
theorem kw_kv : ∀ {ks : List Str} {zs : List V} {ws : List Value}, Vals zs ws → KV (kwV ks zs) ((ks.zip ws).map fun p => (Sum.inr p.1, p.2))
  | [], zs, ws, _ => by
    unfold kwV
    rw [List.zip_nil_left, List.zip_nil_left]
    exact .nil
  | k :: ks, _, _, .nil => by
    unfold kwV
    rw [List.zip_nil_right, List.zip_nil_right]
    exact .nil
  | k :: ks, _, _, .cons r rs => .cons ⟨rfl, r⟩ (kw_kv rs)
theorem kw_keys {P : Params} : ∀ (ex : List (Str × Value)) (t : Tok) (e : DictEntry), e ∈ PySem.W.kwEs P t ex → ∃ k u, e.key = .str k u ∧ e.hash = PyData.keyHash P k := PySem.W.kwEs_key
theorem kw_ok {P : Program} {w : World} {H : Hp} {h : Heap} {ks : List Str} {zs : List V} {ws : List Value} (t : Tok) (big : sysModules < h.objs.size) (r : Vals zs ws) (nd : ks.Nodup) (few : ks.length ≤ 1000) (len : zs.length = ks.length) (m : Nat) :
    ObjOk P w H (h.push (dOf (PySem.W.kwEs w.params t (ks.zip ws)) m)) h.objs.size (.dK (kwV ks zs)) := by
  have lz : (kwV ks zs).length ≤ sizeLine := by
    unfold kwV
    rw [List.length_map, List.length_zip, len, Nat.min_self, sizeLine_eq]
    omega
  have lw : ws.length = ks.length := by rw [← r.length, len]
  have keys : (((ks.zip ws).map fun p => ((Sum.inr p.1 : Key), p.2)).map (·.1)) = ks.map Sum.inr := by
    rw [List.map_map]
    have : (ks.zip ws).map (fun p => (Sum.inr p.1 : Key)) = ((ks.zip ws).map Prod.fst).map Sum.inr := by rw [List.map_map]; rfl
    refine this.trans ?_
    rw [List.map_fst_zip (by omega)]
  refine ⟨lz, beq_eq_false_iff_ne.mpr (Ne.symm (Nat.ne_of_lt big)), _, kw_kv r, _, _, m, at_push _ _ _, ⟨rfl, rfl, rfl⟩, rfl, ?_, ?_, ?_⟩
  · intro e he
    obtain ⟨k, u, hk, hv⟩ := kw_keys _ _ e (by simpa using he)
    exact ⟨Sum.inr k, by rw [hk]; exact keyIs_str k u, hv.trans rfl⟩
  · show Pairs (mixKind P w) (PySem.W.kwEs w.params t (ks.zip ws)).toArray.toList _
    rw [List.toList_toArray]
    exact kw_pairs t
  · rw [keys]
    exact List.pairwise_map.mpr (List.Pairwise.imp (fun h z => h (Sum.inr.inj z)) nd)
/-- a def with the parameters (self, **more), called with these keywords -/
structure FnKW (P : Program) (w : World) (K : PySem.W.Frag) (mg : Str → Option Value) (base : Heap) (CX : CXT) (k : Nat) (f : Addr) (ks : List Str) (sp : Sp) : Prop where
  goes : ∀ (A : Around) (fs : List Env) (s : Shared) (H : Hp) (u : Value) (x : V) (ws : List Value) (zs : List V) (Q : VK) (E : XK), RoomG k A → Env0 P w K mg base A fs s H → RelV x u → Vals zs ws → zs.length = ks.length → (∀ D, H D = none → sp [x, .ref D] (upd H D (.dK (kwV ks zs))) Q E) →
    codeAny (model P w) A (.call (.ref f) ⟨[u], ks.zip ws⟩) (CR CX fs P w H s Q E) s
section
variable {P : Program} {w : World} {K : PySem.W.Frag} {mg : Str → Option Value} {base : Heap} {CX : CXT} {k : Nat} {f : Addr} {N : List Str} {sp : Sp} {ks : List Str}
theorem fn_kw {name qual ps pd : Str} {params : Arguments} {body : List Stmt} {scope : Scope} {dV kV doc pm cdv ct oc : Value} {an od : Option Addr} {osl : Array (Option Value)} (nd : ks.Nodup) (few : ks.length ≤ 1000)
    (lk : K.lookup f = some ⟨oc, od, .func (PySem.W.fnOf name qual params body scope dV kV doc pm an cdv ct), osl⟩) (hcd : PySem.W.codeIn K cdv qual = true) (S : FnScope N [ps, pd] scope) (up : StX.CXUp CX)
    (hb : ∀ (u : Value) (ws : List Value), ws.length = ks.length → bindArgs (PySem.W.fnOf name qual params body scope dV kV doc pm an cdv ct) ⟨[u], ks.zip ws⟩ =
      ((alloc (dOf [] 0) : Sem Addr) >>= fun D => (forIn (ks.zip ws) PUnit.unit fun x _ => (nsSet D x.1 x.2 >>= fun _ => pure (ForInStep.yield PUnit.unit))) >>= fun _ => pure [(ps, u), (pd, Value.ref D)]))
    (hbody : ∀ (A : Around) (fs : List Env) (s : Shared) (H : Hp) (vs : List V) (Q : VK) (E : XK), RoomG k (A.deeper (envOfC qual scope s.heap.objs.size f cdv)) → sp vs H Q E →
      ∃ t, PSs (cxOf CX P w K mg base N qual scope f cdv A fs s H E) body t ∧ t { nx := fun _ G => Q .non G, rt := Q } (start N vs) H) : FnKW P w K mg base CX (k + 1) f ks sp := by
  constructor
  intro A fs s H u x ws zs Q E room e0 rx rz len want
  have lw : ws.length = ks.length := by rw [← rz.length, len]
  have n0 : H s.heap.objs.size = none := e0.hok.fresh (Nat.le_refl _)
  refine StX.run_bnd lk hcd S room.r e0 (G := fun xs H2 => ∃ D, H D = none ∧ xs = [x, .ref D] ∧ H2 = upd H D (.dK (kwV ks zs))) (fun A' Ex Q' h => ?_) fun s2 H2 xs hG hr' => ?_
  · rw [hb u ws lw]
    refine wpAny_bind (wpAny_alloc (wpAny_bind ?_))
    have nz : ((ks.zip ws).map (·.1)).Nodup := by
      have : (ks.zip ws).map (·.1) = ks := List.map_fst_zip (by omega)
      rw [this]
      exact nd
    refine fill_laid (h0 := s.heap) (ks.zip ws) _ [] 0 rfl (fun _ he => nomatch he) (fun _ he => nomatch he) nz (wpAny_pure ?_)
    have new := kw_ok (P := P) (w := w) (H := upd H s.heap.objs.size (.dK (kwV ks zs))) (h := s.heap) (ks := ks) (zs := zs) (ws := ws) s.toks (StX.env0_big e0) rz nd few len (0 + (ks.zip ws).length)
    have un := StX.un_laid (fs := frs fs) (s := s) (o := dOf ([] ++ PySem.W.kwEs w.params s.toks (ks.zip ws)) (0 + (ks.zip ws).length)) (u := .dK (kwV ks zs)) n0
    have e1 := StX.env0_laid e0 new
    refine h { s with heap := s.heap.push (dOf ([] ++ PySem.W.kwEs w.params s.toks (ks.zip ws)) (0 + (ks.zip ws).length)), toks := s.toks + (ks.zip ws).length } _ [x, .ref s.heap.objs.size] [u, .ref s.heap.objs.size] ?_ un rfl
      (fun e s' => up fs s H _ _ E e s' un (fun b o q => Heap.get?_push_of_some _ q) rfl) (.cons rx (.cons rfl .nil)) rfl ⟨_, n0, rfl, rfl⟩
    exact ⟨e1.frames, e1.mod, e1.bs, e1.bsz, e1.funs, e1.frf, e1.hok, e1.bare⟩
  · obtain ⟨D, hD, ex, eH⟩ := hG
    subst ex eH
    exact hbody A fs s2 _ _ Q E ⟨hr', room.g⟩ (want D hD)
end
/-- C(k = v, ..): a new instance and its dict, the keywords' dict, then __init__ -/
def tMakeKW (C : Addr) (m : Nat) (ks : List Str) (sp : Sp) (E : XK) (tk : TA) : TE := fun σ H Q => tk σ H fun zs H2 => zs.length = m ∧ ∀ x dx, H2 x = none → H2 dx = none → dx ≠ x →
  ∀ D, upd (upd H2 dx (.own x)) x (.ins C dx []) D = none → sp [.ref x, .ref D] (upd (upd (upd H2 dx (.own x)) x (.ins C dx [])) D (.dK (kwV ks zs))) (fun v H3 => v = .non ∧ Q (.ref x) H3) E
theorem RoomG.makeKW {k : Nat} {A : Around} (r : RoomG (k + 1) A) (C : Addr) (us : List Value) (kw : List (Str × Value)) : RoomG k (A.under (.builtin "type.__call__" ⟨.ref C :: us, kw⟩)) := ⟨r.r.make C us kw, by
  have e : (A.under (.builtin "type.__call__" ⟨.ref C :: us, kw⟩)).guards = A.guards := by first | rfl | simp [Around.under, Code.weight, Code.isCreation, Code.isGuard, Code.isCaller, Code.frames, Code.isFrame, guardIds]
  rw [e]
  exact r.g⟩
section
variable {X : Cx} {CX : CXT} {k : Nat} {f C : Addr} {ks : List Str} {sp : Sp} {E : XK} {x : Str} {p pos : Pos} {kws : List Keyword} {tk : TA}
theorem pe_makeKW (M : Mk X.K C f) (F : FnKW X.prog X.w X.K X.mg X.base CX k f ks sp) (room : RoomG (k + 1) X.A) (hg : Gl X x) (hm : X.mg x = some (.ref C)) (hx : Passes CX X E) (hkw : PK X kws tk)
    (hall : (backToKw pos (keywordEach kws X.env)).all (·.1.isSome) = true := by rfl) (hks : (backToKw pos (keywordEach kws X.env)).filterMap (·.1) = ks := by rfl) (hdb : (x == ("__debug__" : Str)) = false := by decide)
    (hpl : ((backTo pos (starEach [] X.env)).any (·.1) || (backToKw pos (keywordEach kws X.env)).any (·.1.isNone)) = false := by rfl) :
    PE X (.Call (.Name x p) [] kws pos) (tMakeKW C ks.length ks sp E tk) := by
  constructor
  intro pins s σ H Q I h
  refine wpAny_Call_Name_kw (ld_glob I hg hm ?_ hdb)
  refine PySem.W.callWith_KW0 (h₀ := X.base) I.ok.mod.kin M.kp hall (thn (hkw.run pos pins s σ H _ I h) fun ws z ⟨zs, G, J, rz, l2, q⟩ => ⟨J.kIn, ?_⟩) hpl
  rw [hks]
  have n1 : G (z.heap.objs.size + 1) = none := J.hok.fresh (Nat.le_succ _)
  have n2 : G z.heap.objs.size = none := J.hok.fresh (Nat.le_refl _)
  have hq := q (z.heap.objs.size + 1) z.heap.objs.size n1 n2 (Nat.ne_of_lt (Nat.lt_succ_self _))
  have J2 := Inv.made (C := C) J
  refine wpAny_call (make_map (f := f) J.kIn M.makes M.init (beq_iff_eq.mp M.fn) (codeAny_mono (F.goes _ X.stack _ _ (Value.ref (z.heap.objs.size + 1)) (.ref (z.heap.objs.size + 1)) ws zs _ E (room.makeKW C [] (ks.zip ws)) (J2.env0.make C [] (ks.zip ws)) rfl rz l2 hq) fun r s' hz => ?_))
  match r, hz with
  | .error er, hz => exact hx pins σ _ _ er s' J2 hz
  | .ok (.ret u), hz =>
    obtain ⟨v, H', J3, rv, ev, q3⟩ := J2.after hz
    subst ev
    exact ⟨rv, ⟨V.ref (z.heap.objs.size + 1), H', J3, rfl, q3⟩⟩
end
end G9

/-! An own class, its facts asked at once; class methods; != by an own __eq__. -/
namespace G9
open PySem PySem.Spec PyProof.Rows L2
/-- the built-in kinds that values have here -/
def kindsB : List String := ["NoneType", "bool", "int", "str", "list", "tuple", "dict"]
structure OwnC (K : PySem.W.Frag) (C : Addr) (mc : Value) : Prop where
  cl : Cls K C
  ha : PySem.W.findIn K (.ref C) "__class__" = some (some (.builtin "object.__class__"))
  hn : PySem.W.specialIn K (.builtin "object.__class__") "__get__" = some (some (.builtin "getset_descriptor.__get__"))
  ht : PySem.W.takesIn K (.builtin "object.__class__") = some true
  hm : PySem.W.mroIn K C (.type "object") = some true
  rd : ClX.CRead K C mc
  sf : PySem.W.selfFirst K C = true
  kp : PySem.W.keepIn K (.ref C) = true
  makes : PySem.W.makesIn K C = true
  no : ∀ T ∈ kindsB, PySem.W.kitOne K (.type T) (.ref C) = some false
  me : PySem.W.kitOne K (.ref C) (.ref C) = some true
  nk : ∀ T ∈ kindsB, PySem.W.kitOne K (.ref C) (.type T) = some false
  nf : ∀ T ∈ kindsB, PySem.W.notFirst K C (.type T) = true
def ownCB (K : PySem.W.Frag) (C : Addr) (mc : Value) : Bool :=
  PySem.W.plainGet K C Str.empty && (PySem.W.hasDictIn K C && (PySem.W.plainOver K C && (same (PySem.W.findIn K (.ref C) "__setattr__") (some (some (.builtin "object.__setattr__"))) &&
  (same (PySem.W.findIn K (.ref C) "__class__") (some (some (.builtin "object.__class__"))) && (same (PySem.W.specialIn K (.builtin "object.__class__") "__get__") (some (some (.builtin "getset_descriptor.__get__"))) &&
  (decide (PySem.W.takesIn K (.builtin "object.__class__") = some true) && (decide (PySem.W.mroIn K C (.type "object") = some true) && (PySem.W.readsIn K C mc &&
  (same (PySem.W.specialIn K (.ref C) "__getattribute__") (some (some (.builtin "type.__getattribute__"))) && (PySem.W.selfFirst K C && (PySem.W.keepIn K (.ref C) && (PySem.W.makesIn K C &&
  ((kindsB.all fun T => decide (PySem.W.kitOne K (.type T) (.ref C) = some false)) && (decide (PySem.W.kitOne K (.ref C) (.ref C) = some true) && ((kindsB.all fun T => decide (PySem.W.kitOne K (.ref C) (.type T) = some false)) &&
  (kindsB.all fun T => PySem.W.notFirst K C (.type T)))))))))))))))))
theorem ownC_mk {K : PySem.W.Frag} {C : Addr} {mc : Value} (h : ownCB K C mc = true) : OwnC K C mc := by
  obtain ⟨h1, h⟩ := b2 h
  obtain ⟨h2, h⟩ := b2 h
  obtain ⟨h3, h⟩ := b2 h
  obtain ⟨h4, h⟩ := b2 h
  obtain ⟨h5, h⟩ := b2 h
  obtain ⟨h6, h⟩ := b2 h
  obtain ⟨h7, h⟩ := b2 h
  obtain ⟨h8, h⟩ := b2 h
  obtain ⟨h9, h⟩ := b2 h
  obtain ⟨h10, h⟩ := b2 h
  obtain ⟨h11, h⟩ := b2 h
  obtain ⟨h12, h⟩ := b2 h
  obtain ⟨h13, h⟩ := b2 h
  obtain ⟨h14, h⟩ := b2 h
  obtain ⟨h15, h⟩ := b2 h
  obtain ⟨h16, h17⟩ := b2 h
  exact ⟨⟨h1, h2, h3, same_ok h4⟩, same_ok h5, same_ok h6, of_decide_eq_true h7, of_decide_eq_true h8, ⟨h9, same_ok h10⟩, h11, h12, h13,
    fun T hT => of_decide_eq_true (List.all_eq_true.mp h14 T hT), of_decide_eq_true h15, fun T hT => of_decide_eq_true (List.all_eq_true.mp h16 T hT), fun T hT => List.all_eq_true.mp h17 T hT⟩
theorem OwnC.ty {K : PySem.W.Frag} {C : Addr} {mc : Value} (O : OwnC K C mc) {H : Hp} {a dx : Addr} {fs : List (Str × V)} (e : H a = some (.ins C dx fs)) : TyX K H (.ref a) (.ref C) := .base (.ins e O.cl O.ha O.hn O.ht O.hm)
theorem OwnC.nfC {K : PySem.W.Frag} {C : Addr} {mc : Value} (O : OwnC K C mc) : PySem.W.notFirst K C (.ref C) = true := by
  unfold PySem.W.notFirst
  rw [beq_self_eq_true, Bool.true_or]
theorem rec_hd {K : PySem.W.Frag} {p f : Addr} {T : String} {od : Option Addr} {vs : Array Value} {sl : Array (Option Value)} (h : K.lookup p = some ⟨.type T, od, .fields vs, sl⟩) (e : vs.toList.head? = some (.ref f)) : ∃ rest, PySem.W.recIn K p T = some (.ref f :: rest) := by
  cases z : vs.toList with
  | nil =>
    rw [z] at e
    cases e
  | cons a r =>
    rw [z] at e
    cases e
    refine ⟨r, ?_⟩
    unfold PySem.W.recIn
    rw [h]
    dsimp only
    rw [if_pos (beq_self_eq_true T), z]
/-- a value of one of these kinds -/
def KindAt (K : PySem.W.Frag) (H : Hp) (x : V) : Prop := ∃ T, T ∈ kindsB ∧ TyX K H x (.type T)
theorem kind_non {K : PySem.W.Frag} {H : Hp} : KindAt K H .non := ⟨"NoneType", by decide, .base .non⟩
theorem kind_bl {K : PySem.W.Frag} {H : Hp} {b : Bool} : KindAt K H (.bl b) := ⟨"bool", by decide, .base (.bl b)⟩
theorem kind_int {K : PySem.W.Frag} {H : Hp} {i : Int} : KindAt K H (.int i) := ⟨"int", by decide, .base (.int i)⟩
theorem kind_str {K : PySem.W.Frag} {H : Hp} {s : Str} : KindAt K H (.str s) := ⟨"str", by decide, .base (.str s)⟩
theorem kind_lst {K : PySem.W.Frag} {H : Hp} {a : Addr} {xs : List V} (e : H a = some (.lst xs)) : KindAt K H (.ref a) := ⟨"list", by decide, .base (.lst e)⟩
theorem kind_tup {K : PySem.W.Frag} {H : Hp} {a : Addr} {xs : List V} (e : H a = some (.tup xs)) : KindAt K H (.ref a) := ⟨"tuple", by decide, .base (.tup e)⟩
theorem kind_dK {K : PySem.W.Frag} {H : Hp} {a : Addr} {kvs : List (Key × V)} (e : H a = some (.dK kvs)) : KindAt K H (.ref a) := ⟨"dict", by decide, .base (.dK e)⟩
/-- isinstance(x, C) -/
theorem l_isOwn {K : PySem.W.Frag} {C : Addr} {mc : Value} (O : OwnC K C mc) {H : Hp} {a dx : Addr} {fs : List (Str × V)} {Q : VK} (e : H a = some (.ins C dx fs)) (q : Q (.bl true) H) : rIsi K [.ref a, .ref C] H Q :=
  ⟨_, _, _, _, true, rfl, .own C, O.ty e, O.me, q⟩
theorem l_notOwn {K : PySem.W.Frag} {C : Addr} {mc : Value} (O : OwnC K C mc) {H : Hp} {x : V} {Q : VK} (h : KindAt K H x) (q : Q (.bl false) H) : rIsi K [x, .ref C] H Q := by
  obtain ⟨T, hT, ty⟩ := h
  exact ⟨_, _, _, _, false, rfl, .own C, ty, O.no T hT, q⟩
section
variable {X : Cx} {CX : CXT} {k : Nat} {C p g : Addr} {mc : Value} {fd : FuncData} {ps : List Str} {sp : Sp} {E : XK} {o e : Expr} {es : List Expr} {m : Str} {pos apos : Pos} {ta : TE} {t : TA} {pl : Sem Bool}
/-- C.m(e, ..), m a class method -/
def tClsM (C : Addr) (sp : Sp) (E : XK) (ta : TE) (t : TA) : TE := fun σ H Q => ta σ H fun x H1 => x = .ref C ∧ t σ H1 fun vs H2 => sp (.ref C :: vs) H2 Q E
theorem pe_clsG (he : PE X o ta) (r : ClX.CRead X.K C mc) (c : ClX.CMet X.K C mc m p g) (F : FnG X.prog X.w X.K X.mg X.base CX k g fd ps sp) (room : RoomG k X.A) (hb : Binds X.K fd ps []) (hx : Passes CX X E) (ha : PA X (e :: es) t)
    (hst : starEach (e :: es) X.env = (false, eval e X.env) :: starEach es X.env := by rfl) (hpl : (backTo pos (starEach es X.env)).any (·.1) = false := by rfl)
    (ht : eval (.Call (.Attribute o m apos) (e :: es) [] pos) X.env = (do
      let ov ← eval o X.env
      standAt apos.atName
      let (g, first) ← holding [ov] (getMethod ov m pl)
      callWith pos g first (backTo pos (starEach (e :: es) X.env)) (backToKw pos (keywordEach [] X.env))) := by rfl) : PE X (.Call (.Attribute o m apos) (e :: es) [] pos) (tClsM C sp E ta t) := by
  constructor
  intro pins s σ H Q I h
  refine PySem.W.methodCall_KW (pl := pl) (thn (he.run pins s σ H _ I h) fun u z ⟨x, G, J, rx, ex, q⟩ => ?_) ht
  subst ex
  obtain rfl : u = Value.ref C := rx
  refine ClX.getmethcm_ok J r c fun z2 J2 => ?_
  refine ClX.callwith_cm J2 (ClX.base_none J (Nat.le_refl _)) c.fi (thn (ha.run pos _ z2 σ G _ J2 q) fun us z3 ⟨vs, G2, J3, rv, q2⟩ => ⟨⟨ClX.pin_at J3, J3.kIn⟩, ?_⟩) hst hpl
  have q3 : sp ((.ref C :: vs) ++ []) G2 Q E := by rw [List.append_nil]; exact q2
  have len : ((Value.ref C :: us)).length = ps.length := by
    have := F.count _ _ _ _ q3
    rw [List.append_nil] at this
    rw [← this, List.length_cons, List.length_cons, rv.length]
  have rr : Vals (V.ref C :: vs) (Value.ref C :: us) := .cons (rv_ref C) rv
  refine thn (Q := EP X ((z.heap.objs.size, PySem.W.methodObj (.ref g) (.ref C)) :: pins) σ Q) (wpAny_call (PySem.W.method_call (ClX.pin_at J3) (codeAny_mono (F.goes X.A X.stack z3 G2 ⟨Value.ref C :: us, []⟩ (Value.ref C :: us) (V.ref C :: vs) Q E room J3.env0 (by
    have b := hb z3 (Value.ref C :: us) J3.kIn (by rw [List.append_nil]; exact len)
    rw [List.append_nil] at b
    exact b) rr q2) fun res z4 hz => ?_))) fun _ _ y => ClX.unpinE y
  match res, hz with
  | .error er, hz => exact hx _ σ G2 z3 er z4 J3 hz
  | .ok (.ret u), hz => exact J3.after hz
/-- what is raised in a body goes where the body's exceptions go -/
theorem pxE {W : WX} {E : XK} (tk : Takes X W) (hW : ∀ cls d σ H, E cls d H → W cls d σ H) : Passes (L2.CX X.prog X.w) X E := L2.passes_call tk hW
end
end G9

/-! Texts in order; sorted of a tuple of texts; tuple of a dict; dicts compared by what they hold. -/
namespace G9
open PySem PySem.Spec PyProof.Rows L2
/-! ### texts in order -/
/-- y does not stand behind x -/
def leS (x y : Str) : Prop := ltCps y.cps.toList x.cps.toList = false
def ltS (x y : Str) : Prop := ltCps x.cps.toList y.cps.toList = true
instance {x y : Str} : Decidable (leS x y) := inferInstanceAs (Decidable (_ = false))
instance {x y : Str} : Decidable (ltS x y) := inferInstanceAs (Decidable (_ = true))
theorem ltC_irrefl : ∀ a : List Nat, ltCps a a = false
  | [] => rfl
  | x :: r => by
    show (decide (x < x) || ((x == x) && ltCps r r)) = false
    rw [ltC_irrefl r]
    simp
theorem ltC_cons {a b : Nat} {r t : List Nat} : ltCps (a :: r) (b :: t) = true ↔ a < b ∨ (a = b ∧ ltCps r t = true) := by
  show (decide (a < b) || ((a == b) && ltCps r t)) = true ↔ _
  simp [Bool.or_eq_true, Bool.and_eq_true]
theorem ltC_trans : ∀ {a b c : List Nat}, ltCps a b = true → ltCps b c = true → ltCps a c = true
  | [], [], _, h, _ => absurd h (by decide)
  | [], _ :: _, [], _, h => absurd h (by simp [ltCps])
  | [], _ :: _, _ :: _, _, _ => rfl
  | _ :: _, [], _, h, _ => absurd h (by simp [ltCps])
  | _ :: _, _ :: _, [], _, h => absurd h (by simp [ltCps])
  | a :: r, b :: t, c :: u, h1, h2 => by
    rw [ltC_cons] at *
    rcases h1 with h1 | ⟨rfl, h1⟩
    · rcases h2 with h2 | ⟨rfl, h2⟩
      · exact Or.inl (by omega)
      · exact Or.inl h1
    · rcases h2 with h2 | ⟨rfl, h2⟩
      · exact Or.inl h2
      · exact Or.inr ⟨rfl, ltC_trans h1 h2⟩
theorem ltC_tri : ∀ {a b : List Nat}, ltCps a b = false → ltCps b a = false → a = b
  | [], [], _, _ => rfl
  | [], _ :: _, h, _ => absurd h (by simp [ltCps])
  | _ :: _, [], _, h => absurd h (by simp [ltCps])
  | a :: r, b :: t, h1, h2 => by
    have e1 : ¬ (a < b ∨ (a = b ∧ ltCps r t = true)) := fun z => by rw [ltC_cons.mpr z] at h1; cases h1
    have e2 : ¬ (b < a ∨ (b = a ∧ ltCps t r = true)) := fun z => by rw [ltC_cons.mpr z] at h2; cases h2
    have e : a = b := by omega
    subst e
    have f1 : ltCps r t = false := by
      cases q : ltCps r t with
      | false => rfl
      | true => exact absurd (Or.inr ⟨rfl, q⟩) e1
    have f2 : ltCps t r = false := by
      cases q : ltCps t r with
      | false => rfl
      | true => exact absurd (Or.inr ⟨rfl, q⟩) e2
    rw [ltC_tri f1 f2]
theorem str_ext {x y : Str} (h : x.cps.toList = y.cps.toList) : x = y := by
  obtain ⟨⟨l⟩⟩ := x
  obtain ⟨⟨m⟩⟩ := y
  have h : l = m := h
  rw [h]
theorem ltS_trans {x y z : Str} (a : ltS x y) (b : ltS y z) : ltS x z := ltC_trans a b
theorem ltS_irrefl (x : Str) : ¬ ltS x x := fun h => by
  have h : ltCps x.cps.toList x.cps.toList = true := h
  rw [ltC_irrefl] at h
  cases h
theorem leS_iff {x y : Str} : leS x y ↔ ltS x y ∨ x = y := by
  constructor
  · intro h
    cases q : ltCps x.cps.toList y.cps.toList with
    | true => exact Or.inl q
    | false => exact Or.inr (str_ext (ltC_tri q h))
  · rintro (h | rfl)
    · cases q : ltCps y.cps.toList x.cps.toList with
      | false => exact q
      | true => exact absurd (ltC_trans h q) (ltS_irrefl x)
    · exact ltC_irrefl _
theorem rising_iff : ∀ (l : List Str) (p : Str), risingS p l = true ↔ (p :: l).Pairwise leS
  | [], p => by simp [risingS]
  | x :: r, p => by
    show (!ltCps x.cps.toList p.cps.toList && risingS x r) = true ↔ _
    rw [Bool.and_eq_true, rising_iff r x, List.pairwise_cons (a := p)]
    constructor
    · rintro ⟨a, b⟩
      have a : leS p x := by simpa [leS] using a
      refine ⟨fun y hy => ?_, b⟩
      rcases List.mem_cons.mp hy with rfl | hy
      · exact a
      · have c := (List.pairwise_cons.mp b).1 y hy
        rcases leS_iff.mp a with a | rfl
        · rcases leS_iff.mp c with c | rfl
          · exact leS_iff.mpr (Or.inl (ltS_trans a c))
          · exact leS_iff.mpr (Or.inl a)
        · exact c
    · rintro ⟨a, b⟩
      have c : leS p x := a x List.mem_cons_self
      exact ⟨by simpa [leS] using c, b⟩
theorem sortedS_iff {l : List Str} : sortedS l = true ↔ l.Pairwise leS := by
  cases l with
  | nil => simp [sortedS]
  | cons x r => exact rising_iff r x
/-- in order, none twice -/
def Asc (l : List Str) : Prop := l.Pairwise ltS
theorem asc_of {l : List Str} (h : sortedS l = true) (nd : l.Nodup) : Asc l := by
  have h1 := sortedS_iff.mp h
  exact (h1.and nd).imp fun ⟨a, b⟩ => (leS_iff.mp a).resolve_right b
theorem ltS_ne {a b : Str} (q : ltS a b) : a ≠ b := fun e => by
  rw [e] at q
  exact ltS_irrefl b q
theorem Asc.nodup {l : List Str} (h : Asc l) : l.Nodup := List.Pairwise.imp (fun q => ltS_ne q) h
/-- one order alone -/
theorem asc_unique : ∀ {l m : List Str}, Asc l → Asc m → l.Perm m → l = m
  | [], m, _, _, p => (List.nil_perm.mp p).symm
  | x :: r, [], _, _, p => absurd p.length_eq (by simp)
  | x :: r, y :: t, a, b, p => by
    have a1 := List.pairwise_cons.mp a
    have b1 := List.pairwise_cons.mp b
    have e : x = y := by
      have hx : x ∈ y :: t := p.mem_iff.mp List.mem_cons_self
      have hy : y ∈ x :: r := p.mem_iff.mpr List.mem_cons_self
      rcases List.mem_cons.mp hx with h | h
      · exact h
      · rcases List.mem_cons.mp hy with h' | h'
        · exact h'.symm
        · exact absurd (ltS_trans (b1.1 x h) (a1.1 y h')) (ltS_irrefl y)
    subst e
    rw [asc_unique a1.2 b1.2 (List.Perm.cons_inv p)]
/-! ### sorted(t), t a tuple of texts -/
section
variable {X : Cx}
def rSortedT (K : PySem.W.Frag) : List V → Hp → VK → Prop := fun vs H Q => ∃ (a : Addr) (xs : List Str), vs = [V.ref a] ∧ SqT K H a (xs.map V.str) ∧ xs.length < 64 ∧
  ∀ (ys : List Str) (p : Addr), ys.Perm xs → sortedS ys = true → H p = none → Q (.ref p) (upd H p (.lst (ys.map V.str)))
theorem call_sortedT : CallR X (.builtin "sorted") (rSortedT X.K) := by
  intro pins s σ H vs us Q I r h
  obtain ⟨a, xs, rfl, hs, h64, q⟩ := h
  obtain ⟨u, rfl, rx⟩ := vals1 r
  obtain rfl : u = Value.ref a := rx
  obtain ⟨its, rv, pl, hz⟩ := I.tuple hs
  obtain ⟨o, ho, hc, n, hd⟩ := pl
  have hlen := rv.length
  rw [List.length_map] at hlen
  have hS : StrsAre its xs := rv.strs
  refine Calls.call_function_entry PyProof.Rows.kind_sorted PyProof.Rows.plain_sorted PyProof.Rows.entry_sorted (PyProof.Rows.args_sorted1 _) ?_
  unfold Builtin.«sorted»
  refine wpAny_bind (m := checkCount "sorted" 1 1 _) (wpAny_pure ?_)
  refine wpAny_bind (wpAny_collect_seq a (.inr rfl) ho hc hd (fun h' hk => ?_) (by rw [List.size_toArray, ← hlen, sizeLine_eq]; omega))
  rw [List.toList_toArray]
  have I1 : Inv X pins σ H { s with heap := h' } := I.kept (t' := s.toks) hk
  refine wpAny_bind (wpAny_newList ?_ (by rw [← hlen, sizeLine_eq]; omega))
  have hoL : (h'.push (seqObj "list" its.toArray 0)).get? h'.objs.size = some (seqObj "list" its.toArray 0) := Heap.get?_push_size _ rfl
  show wpAny _ _ _ _ _ { s with heap := h'.push (seqObj "list" its.toArray 0) }
  refine wpAny_bind (wpAny_holding (wpAny_call_entry PyProof.Rows.slot_list_sort ⟨_, hoL, rfl⟩ PyProof.Rows.entry_list_sort
    (list_sort_treeK strKind_oneLt (s := { s with heap := h'.push (seqObj "list" its.toArray 0) }) hoL hS.keysOf (fun v₁ v₂ rest e => keyKind_strs (by rw [← e]; exact hS)) (by rw [← hlen]; exact h64) fun st' hp hs => ⟨_, rfl, ?_⟩) (PyProof.Rows.args_list_sort _)))
  obtain ⟨ys, g1, g2, g3⟩ := sorted_out_str hS hp hs
  obtain ⟨e', he'⟩ := PyProof.Rows.sortedHeap_at (vs := its) (out := (arrOf st').map (·.2)) hoL
  have lz : (ys.map V.str).length ≤ sizeLine := by
    rw [List.length_map, g2.length_eq, sizeLine_eq]
    omega
  have mine : ObjOk X.prog X.w (upd H h'.objs.size (.lst (ys.map V.str))) (PyProof.Rows.sortedHeap (h'.push (seqObj "list" its.toArray 0)) h'.objs.size its ((arrOf st').map (·.2))) h'.objs.size (.lst (ys.map V.str)) :=
    ⟨lz, ((arrOf st').map (·.2)).toList, e', vals_of_strs g1, by rw [Array.toArray_toList]; exact he'⟩
  refine wpAny_pure ⟨_, rfl, .ref h'.objs.size, upd H h'.objs.size (.lst (ys.map V.str)), I1.laid (t' := s.toks) (fun b u e => ?_) (Nat.le_refl _) mine, rfl, q ys _ g2 g3 (I1.hok.fresh (Nat.le_refl _))⟩
  have hb : b < h'.objs.size := Heap.lt_size e
  rw [PyProof.Rows.sortedHeap_old (Nat.ne_of_lt hb) (by rw [size_push']; exact Nat.lt_succ_of_lt hb)]
  exact Heap.get?_push_of_some _ e
end
/-! ### dicts compared by what they hold -/
section
variable {K : PySem.W.Frag} {H : Hp}
/-- a dict's values, told as data -/
def HoldsD (K : PySem.W.Frag) (H : Hp) : List (Key × V) → List (Key × PyData) → Prop := Paired fun p q => p.1 = q.1 ∧ Dp K H p.2 q.2 ∧ SeqAt.shaped q.2 = true
def findD (ls : List (Key × PyData)) (k : Key) : Option PyData := (ls.find? fun p => decide (p.1 = k)).map (·.2)
/-- each key of the first one has an equal value in the second one -/
def inD (ls : List (Key × PyData)) : List (Key × PyData) → Bool
  | [] => true
  | p :: r => match findD ls p.1 with
    | none => false
    | some y => PyData.eqv p.2 y && inD ls r
theorem findD_some {kvs : List (Key × V)} {ls : List (Key × PyData)} {k : Key} (h : HoldsD K H kvs ls) : (findD ls k = none ∧ valV kvs k = none) ∨ ∃ d v, findD ls k = some d ∧ valV kvs k = some v ∧ Dp K H v d ∧ SeqAt.shaped d = true := by
  induction h with
  | nil => exact Or.inl ⟨rfl, rfl⟩
  | @cons p q ps qs h t ih =>
    obtain ⟨h1, h2, h3⟩ := h
    by_cases e : p.1 = k
    · refine Or.inr ⟨q.2, p.2, ?_, valV_pos e, h2, h3⟩
      have : q.1 = k := h1 ▸ e
      simp [findD, List.find?_cons, this]
    · have e2 : ¬ q.1 = k := fun z => e (h1.trans z)
      have f1 : findD (q :: qs) k = findD qs k := by simp [findD, List.find?_cons, e2]
      have f2 : valV (p :: ps) k = valV ps k := by simp [valV, List.find?_cons, e]
      rw [f1, f2]
      exact ih
end
section
variable {X : Cx}
theorem hits_data {A : Around} {pins : List (Addr × Obj)} {σ : L2.St} {H : Hp} {s : Shared} (I : Inv X pins σ H s) (room : A.units + 64 < cLine) {lvs : List (Key × V)} {vb : List (Key × Value)} (rb : KV lvs vb) {ls : List (Key × PyData)} (hb : HoldsD X.K H lvs ls) :
    ∀ {kvs : List (Key × V)} {va : List (Key × Value)} {ks : List (Key × PyData)}, KV kvs va → HoldsD X.K H kvs ks → PySem.W.KeqHits A s vb va (inD ls ks) := by
  intro kvs va ks ra ha
  unfold KV at ra
  induction ra generalizing ks with
  | nil =>
    cases ha
    exact .nil
  | @cons p q ps qs h t ih =>
    cases ha with
    | @cons _ d _ ds hd td =>
      obtain ⟨h1, h2⟩ := h
      obtain ⟨d1, d2, d3⟩ := hd
      obtain ⟨k, v⟩ := q
      have h1 : p.1 = k := h1
      have kd : d.1 = k := d1 ▸ h1
      have val : ∀ o, valV lvs k = o → RelO o (valueAt vb k) := fun o e => e ▸ rb.val k
      show PySem.W.KeqHits A s vb ((k, v) :: qs) (match findD ls d.1 with | none => false | some y => PyData.eqv d.2 y && inD ls ds)
      rw [kd]
      rcases findD_some (k := k) hb with ⟨e1, e2⟩ | ⟨y, w1, e1, e2, e3, e4⟩
      · rw [e1]
        exact .miss (RelO.none_of (val _ e2))
      · rw [e1]
        obtain ⟨u, hu, ru⟩ := RelO.some_of (val _ e2)
        obtain ⟨as, r1⟩ := Dp.reads I _ _ _ d2 h2
        obtain ⟨bs, r2⟩ := Dp.reads I _ _ _ e3 ru
        exact .hit hu (SeqAt.eqAt_reads _ _ _ _ _ _ _ _ r1 r2 (SeqAt.canLay_of_shaped d3) (SeqAt.canLay_of_shaped e4) (SeqAt.room_of_shaped d3 room)) (ih td)
def eqD (ks ls : List (Key × PyData)) : Bool := ks.length == ls.length && inD ls ks
def rEqDD (K : PySem.W.Frag) : R2 := fun x y H Q => ∃ (a b : Addr) (kvs lvs : List (Key × V)) (ks ls : List (Key × PyData)), x = .ref a ∧ y = .ref b ∧ Rd H a (.dK kvs) ∧ Rd H b (.dK lvs) ∧ HoldsD K H kvs ks ∧ HoldsD K H lvs ls ∧ Q (.bl (eqD ks ls)) H
def rNeDD (K : PySem.W.Frag) : R2 := fun x y H Q => ∃ (a b : Addr) (kvs lvs : List (Key × V)) (ks ls : List (Key × PyData)), x = .ref a ∧ y = .ref b ∧ Rd H a (.dK kvs) ∧ Rd H b (.dK lvs) ∧ HoldsD K H kvs ks ∧ HoldsD K H lvs ls ∧ Q (.bl (!eqD ks ls)) H
theorem op_eqDD (room : X.A.units + 70 < cLine) : OpR X (compareOp .Eq) (rEqDD X.K) := by
  intro pins s σ H x y v u Q I rx ry h
  obtain ⟨a, b, kvs, lvs, ks, ls, rfl, rfl, ea, eb, ha, hb, q⟩ := h
  obtain rfl : v = Value.ref a := rx
  obtain rfl : u = Value.ref b := ry
  obtain ⟨_, ya, va, ra, da⟩ := dk_rd I.hok ea
  obtain ⟨_, yb, vb, rb, db⟩ := dk_rd I.hok eb
  have l1 : va.length = ks.length := ra.length.symm.trans ha.length
  have l2 : vb.length = ls.length := rb.length.symm.trans hb.length
  refine PySem.W.keq_eq (knd := mixKind X.prog X.w) (r := inD ls ks) ya yb da db (by omega) (fun _ => hits_data I (by show X.A.units + 1 + 64 < cLine; omega) rb hb ra ha) ?_
  rw [l1, l2]
  exact ⟨.bl _, H, I, rfl, q⟩
theorem op_neDD (room : X.A.units + 70 < cLine) : OpR X (compareOp .NotEq) (rNeDD X.K) := by
  intro pins s σ H x y v u Q I rx ry h
  obtain ⟨a, b, kvs, lvs, ks, ls, rfl, rfl, ea, eb, ha, hb, q⟩ := h
  obtain rfl : v = Value.ref a := rx
  obtain rfl : u = Value.ref b := ry
  obtain ⟨_, ya, va, ra, da⟩ := dk_rd I.hok ea
  obtain ⟨_, yb, vb, rb, db⟩ := dk_rd I.hok eb
  have l1 : va.length = ks.length := ra.length.symm.trans ha.length
  have l2 : vb.length = ls.length := rb.length.symm.trans hb.length
  refine PySem.W.keq_ne (knd := mixKind X.prog X.w) (r := inD ls ks) ya yb da db (by omega) (fun _ => hits_data I (by show X.A.units + 1 + 64 < cLine; omega) rb hb ra ha) ?_
  rw [l1, l2]
  exact ⟨.bl _, H, I, rfl, q⟩
end
end G9

/-! Readings step by step: fields, methods, dicts, loops and comprehensions over dicts. -/
namespace G9
open PySem PySem.Spec PyProof.Rows L2
theorem RoomG.u70 {k : Nat} {A : Around} (r : RoomG k A) : A.units + 70 < cLine := by
  have := r.r.un
  omega
theorem RoomG.hu {k : Nat} {A : Around} (r : RoomG k A) : A.units + 1 < cLine := by
  have := r.r.un
  omega
theorem fun_fi {K : PySem.W.Frag} {x q : Str} {st : Stmt} {f : Addr} {fd : FuncData} (F : Fun K x q st f fd) : PySem.W.fnIn K f = true := by
  obtain ⟨_, _, _, _, _, _, _, _, _, rfl, lk, _⟩ := F.ex
  unfold PySem.W.fnIn
  rw [lk]
section
variable {X : Cx}
def rDIn : R2 := fun y x H Q => ∃ a o, x = .ref a ∧ DGet H a y o ∧ Q (.bl o.isSome) H
def rDNin : R2 := fun y x H Q => ∃ a o, x = .ref a ∧ DGet H a y o ∧ Q (.bl (!o.isSome)) H
theorem op_dIn (hu : X.A.units + 1 < cLine) : OpR X (compareOp .In) rDIn := by
  intro pins s σ H y x u v Q I ry rx h
  obtain ⟨a, o, rfl, g, q⟩ := h
  obtain rfl : v = Value.ref a := rx
  exact d_in hu I g ry fun z J => ⟨.bl _, H, J, rfl, q⟩
theorem op_dNin (hu : X.A.units + 1 < cLine) : OpR X (compareOp .NotIn) rDNin := by
  intro pins s σ H y x u v Q I ry rx h
  obtain ⟨a, o, rfl, g, q⟩ := h
  obtain rfl : v = Value.ref a := rx
  exact d_notIn hu I g ry fun z J => ⟨.bl _, H, J, rfl, q⟩
/-- len(d), d a dict -/
def rLenD : List V → Hp → VK → Prop := fun xs H Q => ∃ (a : Addr) (kvs : List (Key × V)), xs = [V.ref a] ∧ Rd H a (.dK kvs) ∧ Q (.int kvs.length) H
theorem c_lenD : CallR X (.builtin "len") rLenD := by
  intro pins s σ H xs us Q I r h
  obtain ⟨a, kvs, rfl, ha, q⟩ := h
  obtain ⟨u, rfl, ru⟩ := vals1 r
  cases ru
  exact d_len I ha fun t s' I' => ⟨.int kvs.length, H, I', ⟨t, rfl⟩, q⟩
end
section
variable {K : PySem.W.Frag} {σ : L2.St} {H : Hp} {ta tb te : TE} {t : TA} {x y v : V} {Q : VK} {D : Ends} {a C dx d : Addr} {fs : List (Str × V)} {f m : Str} {sp : Sp} {E : XK} {kvs : List (Key × V)}
theorem l_dIn {o : Option V} (g : DGet H a y o) (q : Q (.bl o.isSome) H) : rDIn y (.ref a) H Q := ⟨a, o, rfl, g, q⟩
theorem l_dNin {o : Option V} (g : DGet H a y o) (q : Q (.bl (!o.isSome)) H) : rDNin y (.ref a) H Q := ⟨a, o, rfl, g, q⟩
theorem l_lenD (e : H a = some (.dK kvs)) (q : Q (.int kvs.length) H) : rLenD [.ref a] H Q := ⟨a, kvs, rfl, Or.inl e, q⟩
theorem l_lenR (e : Rd H a (.dK kvs)) (q : Q (.int kvs.length) H) : rLenD [.ref a] H Q := ⟨a, kvs, rfl, e, q⟩
theorem l_any {p : Addr} {bs : List Bool} (h : SqL K H p (bs.map V.bl)) (q : Q (.bl (bs.any id)) H) : rAny K [.ref p] H Q := ⟨p, bs, rfl, h, q⟩
def RFld (K : PySem.W.Frag) (f : Str) (x : V) (H : Hp) (Q : VK) : Prop := ∃ a C dx fs v, x = .ref a ∧ H a = some (.ins C dx fs) ∧ Cls K C ∧ NoAttr K C f ∧ fs.lookup f = some v ∧ Q v H
theorem s_fld (q : ta σ H fun x H1 => RFld K f x H1 Q) : tFld K ta f σ H Q := q
theorem l_fld (e : H a = some (.ins C dx fs)) (c : Cls K C) (n : NoAttr K C f) (l : fs.lookup f = some v) (q : Q v H) : RFld K f (.ref a) H Q := ⟨a, C, dx, fs, v, rfl, e, c, n, l, q⟩
def RSetF (K : PySem.W.Frag) (f : Str) (D : Ends) (σ : L2.St) (y x : V) (H : Hp) : Prop := ∃ a C dx fs, x = .ref a ∧ H a = some (.ins C dx fs) ∧ Cls K C ∧ NoAttr K C f ∧ fs.length < 1000 ∧ D.nx σ (upd H a (.ins C dx (putF f y fs)))
theorem s_setf (q : te σ H fun y H1 => ta σ H1 fun x H2 => RSetF K f D σ y x H2) : sFld K ta te f D σ H := q
theorem l_setf (e : H a = some (.ins C dx fs)) (c : Cls K C) (n : NoAttr K C f) (l : fs.length < 1000) (q : D.nx σ (upd H a (.ins C dx (putF f y fs)))) : RSetF K f D σ y (.ref a) H := ⟨a, C, dx, fs, rfl, e, c, n, l, q⟩
def ROwnM (C : Addr) (m : Str) (sp : Sp) (E : XK) (t : TA) (σ : L2.St) (x : V) (H : Hp) (Q : VK) : Prop := ∃ (a dx : Addr) (fs : List (Str × V)), x = .ref a ∧ H a = some (.ins C dx fs) ∧ fs.lookup m = none ∧ t σ H fun vs H2 => sp (.ref a :: vs) H2 Q E
theorem s_ownM (q : ta σ H fun x H1 => ROwnM C m sp E t σ x H1 Q) : tOwnM C m sp E ta t σ H Q := q
theorem l_ownM (e : H a = some (.ins C dx fs)) (l : fs.lookup m = none) (q : t σ H fun vs H2 => sp (.ref a :: vs) H2 Q E) : ROwnM C m sp E t σ (.ref a) H Q := ⟨a, dx, fs, rfl, e, l, q⟩
theorem s_ownP (q : ta σ H fun x H1 => OwnCall C sp E x [] H1 Q) : tOwnP C sp E ta σ H Q := q
theorem s_clsM (q : ta σ H fun x H1 => x = .ref C ∧ t σ H1 fun vs H2 => sp (.ref C :: vs) H2 Q E) : tClsM C sp E ta t σ H Q := q
def RDGet (x y : V) (H : Hp) (Q : VK) : Prop := ∃ a v, x = .ref a ∧ DGet H a y (some v) ∧ Q v H
theorem s_dget (q : ta σ H fun x H1 => tb σ H1 fun y H2 => RDGet x y H2 Q) : tDGet ta tb σ H Q := q
theorem l_dget (g : DGet H a y (some v)) (q : Q v H) : RDGet (.ref a) y H Q := ⟨a, v, rfl, g, q⟩
theorem l_dgetK {k : Key} (e : H a = some (.dK kvs)) (l : valV kvs k = some v) (q : Q v H) : RDGet (.ref a) (kV k) H Q := ⟨a, v, rfl, l ▸ DGet.k e, q⟩
theorem dgetF {k : Key} {o : Obj} (e : H a = some (.frz o (.dK kvs))) : DGet H a (kV k) (valV kvs k) := .inl ⟨kvs, k, .inr ⟨o, e⟩, rfl, rfl⟩
theorem s_told0 {g : Str → Bool} {i : Nat} {z : Str} (h : σ[i]? = some (some (.str z))) (q : Q (.bl (g z)) H) : tM0 (fun x xs H Q => ∃ a, x = .str a ∧ xs = [] ∧ True ∧ Q (.bl (g a)) H) (tVar i) σ H Q := ⟨_, h, ⟨z, rfl⟩, z, rfl, rfl, trivial, q⟩
/-! ### values that stay told while dicts grow and are unlocked -/
structure Bears (Pr : Hp → V → Prop) : Prop where
  same : ∀ G G' w, Same G G' → Pr G w → Pr G' w
  set : ∀ G D o o' w, G D = some o → (∀ xs, o ≠ .tup xs) → Pr G w → Pr (upd G D o') w
theorem bears_is (v : V) : Bears fun _ w => w = v := ⟨fun _ _ _ _ h => h, fun _ _ _ _ _ _ _ h => h⟩
theorem bears_tup (xs : List V) : Bears fun G w => ∃ t, w = .ref t ∧ G t = some (.tup xs) := ⟨fun G G' w s ⟨t, e, h⟩ => ⟨t, e, s _ _ h⟩, fun G D o o' w hD no ⟨t, e, h⟩ => ⟨t, e, by
  have ne : t ≠ D := fun z => by
    rw [z, hD] at h
    exact no _ (Option.some.inj h)
  rw [upd_ne ne]
  exact h⟩⟩
/-- te gives a value with Pr, leaving what is there -/
def ToW (te : TE) (τ : L2.St) (G : Hp) (Pr : Hp → V → Prop) : Prop := ∀ R : VK, (∀ v G', Same G G' → Pr G' v → R v G') → te τ G R
theorem zip_snoc {α β : Type} : ∀ {as : List α} {bs : List β} {a : α} {b : β}, as.length = bs.length → (as ++ [a]).zip (bs ++ [b]) = as.zip bs ++ [(a, b)]
  | [], [], _, _, _ => rfl
  | [], _ :: _, _, _, h => by simp at h
  | _ :: _, [], _, _, h => by simp at h
  | x :: as, y :: bs, a, b, h => by
    rw [List.cons_append, List.cons_append, List.zip_cons_cons, List.zip_cons_cons, List.cons_append, zip_snoc (by simpa using h)]
theorem valV_zip_none {ks : List Key} {ws : List V} {k : Key} (h : k ∉ ks) : valV (ks.zip ws) k = none := by
  cases e : valV (ks.zip ws) k with
  | none => rfl
  | some v =>
    have m := valV_in e
    obtain ⟨p, hp, ep⟩ := List.mem_map.mp m
    exact absurd (ep ▸ (List.of_mem_zip hp).1) h
end
section
variable {K : PySem.W.Frag} {σ : L2.St} {H : Hp} {g : TG} {tt : TT} {tk tv te : TE} {j : Nat} {Q : VK} {x : V}
def WDc (J : It) (g : TG) (tt : TT) (tk tv : TE) (vs : List Nat) (σ : L2.St) (Q : VK) (H1 : Hp) : Prop := ∀ D, H1 D = none → ∃ W : Nat → Nat → Hp → Prop, (∃ m, W 0 m (upd H1 D (.dK []))) ∧ ∀ i m H, W i m H →
  (J.stop i H ∧ Q (.ref D) H) ∨ (J.go i H ∧ ∃ Nx : Hp → Prop, (∀ H', Nx H' → ∃ m', m' < m ∧ W (i + 1) m' H') ∧ ∀ x H', J.yld i H x H' → g x (wipe σ vs) H' fun σ2 H2 => wipe σ2 vs = wipe σ vs ∧ tt σ2 H2 fun b H3 =>
    if b = true then tk σ2 H3 fun y H4 => tv σ2 H4 fun z H5 => ∃ kvs k, y = kV k ∧ H5 D = some (.dK kvs) ∧ kvs.length < sizeLine ∧ Nx (upd H5 D (.dK (putK kvs k z))) else Nx H3)
theorem wdc_of {J : It} {ks : List Key} {Gd : Hp → Prop} {Y : Nat → Hp → V → Hp → Prop} (w : Walk J ks.length Gd Y) (yld : ∀ i G x G', i < ks.length → Gd G → Y i G x G' → G' = G ∧ ∃ k, ks[i]? = some k ∧ x = kV k) (stay : ∀ G, Same H G → Gd G) (nd : ks.Nodup) (short : ks.length ≤ 1000)
    (Pr : Nat → Hp → V → Prop) (bear : ∀ i, Bears (Pr i)) (key : ∀ k ∈ ks, ∀ G, Same H G → ToV tk ((wipe σ [j]).set j (some (kV k))) G (kV k)) (val : ∀ i k G, ks[i]? = some k → Same H G → ToW tv ((wipe σ [j]).set j (some (kV k))) G (Pr i))
    (fin : ∀ D G ws, H D = none → Same H G → ws.length = ks.length → (∀ i w, ws[i]? = some w → Pr i G w) → G D = some (.dK (ks.zip ws)) → Q (.ref D) G) : WDc J (gName j) tYes tk tv [j] σ Q H := by
  intro D hD
  refine ⟨fun i m G => m = ks.length - i ∧ i ≤ ks.length ∧ ∃ ws : List V, ws.length = i ∧ Same H G ∧ G D = some (.dK ((ks.take i).zip ws)) ∧ ∀ l u, ws[l]? = some u → Pr l G u, ⟨ks.length, by omega, Nat.zero_le _, [], rfl, Same.upd0 hD, upd_same, fun l u z => by simp at z⟩, ?_⟩
  rintro i m G ⟨rfl, hi, ws, lw, sG, gD, all⟩
  by_cases hlt : i < ks.length
  · refine Or.inr ⟨w.goes i G hlt (stay G sG), fun G' => i + 1 ≤ ks.length ∧ ∃ ws : List V, ws.length = i + 1 ∧ Same H G' ∧ G' D = some (.dK ((ks.take (i + 1)).zip ws)) ∧ ∀ l u, ws[l]? = some u → Pr l G' u,
      fun G' h => ⟨ks.length - (i + 1), by omega, rfl, h⟩, fun x G' y => ?_⟩
    obtain ⟨rfl, k, hk, rfl⟩ := yld i G x G' hlt (stay G sG) (w.yields i G x G' hlt (stay G sG) y)
    refine s_name ⟨?_, ?_⟩
    · show (((σ.set j none).set j (some (kV k))).set j none) = σ.set j none
      rw [List.set_set, List.set_set]
    refine s_yes (iteT ?_)
    refine key k (List.mem_of_getElem? hk) _ sG _ fun G1 s1 => val i k G1 hk (sG.trans s1) _ fun z G2 s2 pz => ?_
    have gD2 := s2 _ _ (s1 _ _ gD)
    have lt : (ks.take i).length = i := by rw [List.length_take]; omega
    have fresh : k ∉ ks.take i := fun hm => by
      obtain ⟨l, hl, e⟩ := List.getElem_of_mem hm
      rw [lt] at hl
      rw [List.getElem_take] at e
      obtain ⟨hi2, e2⟩ := List.getElem?_eq_some_iff.mp hk
      exact List.pairwise_iff_getElem.mp nd l i (by omega) hi2 hl (e.trans e2.symm)
    have new : putK ((ks.take i).zip ws) k z = (ks.take (i + 1)).zip (ws ++ [z]) := by
      rw [putK_new z (valV_zip_none fresh), List.take_add_one, hk]
      exact (zip_snoc (by rw [lt, lw])).symm
    refine ⟨_, k, rfl, gD2, ?_, by omega, ws ++ [z], by rw [List.length_append, lw]; rfl, Same.setNew ((sG.trans s1).trans s2) hD, by rw [upd_same, new], fun l u hu => ?_⟩
    · rw [List.length_zip, lt, lw, Nat.min_self, sizeLine_eq]
      omega
    · have keep : ∀ l u, Pr l G2 u → Pr l (upd G2 D (.dK (putK ((ks.take i).zip ws) k z))) u := fun l u p => (bear l).set _ _ _ _ _ gD2 (fun _ e => by cases e) p
      by_cases hl : l < ws.length
      · rw [List.getElem?_append_left hl] at hu
        exact keep l u ((bear l).same _ _ _ (s1.trans s2) (all l u hu))
      · rw [List.getElem?_append_right (by omega)] at hu
        have e0 : l - ws.length = 0 := by
          rcases Nat.eq_zero_or_pos (l - ws.length) with h | h
          · exact h
          · rw [List.getElem?_eq_none (by rw [List.length_singleton]; omega)] at hu
            cases hu
        rw [e0] at hu
        have e1 : u = z := (Option.some.inj hu).symm
        have e2 : l = i := by omega
        rw [e1, e2]
        exact keep i z pz
  · have e : i = ks.length := by omega
    subst e
    rw [List.take_length] at gD
    exact Or.inl ⟨w.stops G (stay G sG), fin D G ws hD sG lw all gD⟩
/-- {k: v for k in a list of texts} -/
def LstDc (K : PySem.W.Frag) (g : TG) (tt : TT) (tk tv : TE) (vs : List Nat) (σ : L2.St) (Q : VK) (x : V) (H1 : Hp) : Prop := ∃ a, x = .ref a ∧ (∃ xs, SqL K H1 a xs) ∧ WDc (Itl K a) g tt tk tv vs σ Q H1
theorem s_dcL (q : te σ H fun v H1 => LstDc K g tt tk tv [j] σ Q v H1) : tDc (iList K te) g tt tk tv [j] σ H Q := q
theorem l_dcL {p : Addr} {ks : List Str} (h : SqL K H p (ks.map V.str)) (nd : ks.Nodup) (short : ks.length ≤ 1000) (Pr : Nat → Hp → V → Prop) (bear : ∀ i, Bears (Pr i)) (key : ∀ k ∈ ks, ∀ G, Same H G → ToV tk ((wipe σ [j]).set j (some (.str k))) G (.str k))
    (val : ∀ i k G, ks[i]? = some k → Same H G → ToW tv ((wipe σ [j]).set j (some (.str k))) G (Pr i))
    (fin : ∀ D G ws, H D = none → Same H G → ws.length = ks.length → (∀ i w, ws[i]? = some w → Pr i G w) → G D = some (.dK ((ks.map Sum.inr).zip ws)) → Q (.ref D) G) : LstDc K (gName j) tYes tk tv [j] σ Q (.ref p) H := by
  refine ⟨p, rfl, ⟨_, h⟩, ?_⟩
  have lm : (ks.map (Sum.inr : Str → Key)).length = ks.length := List.length_map _
  have w : Walk (Itl K p) (ks.map (Sum.inr : Str → Key)).length (fun G => SqL K G p (ks.map V.str)) (YAt (ks.map V.str)) := by
    have := walk_list (K := K) (a := p) (xs := ks.map V.str)
    rwa [List.length_map, ← lm] at this
  refine wdc_of w (fun i G x G' hi _ y => ?_) (fun G s => s.seq h) (List.pairwise_map.mpr (List.Pairwise.imp (fun n e => n (Sum.inr.inj e)) nd)) (by omega) Pr bear (fun k hk G s => ?_) (fun i k G hk s => ?_) (fun D G ws hD s l a e => fin D G ws hD s (by omega) a e)
  · obtain ⟨rfl, hx⟩ := y
    rw [List.getElem?_map] at hx
    obtain ⟨s, hs, rfl⟩ := Option.map_eq_some_iff.mp hx
    exact ⟨rfl, Sum.inr s, by rw [List.getElem?_map, hs]; rfl, rfl⟩
  · obtain ⟨s', hs', rfl⟩ := List.mem_map.mp hk
    exact key s' hs' G s
  · rw [List.getElem?_map] at hk
    obtain ⟨s', hs', rfl⟩ := Option.map_eq_some_iff.mp hk
    exact val i s' G hs' s
/-! ### a dict that is locked while it is walked -/
abbrev locked (H : Hp) (d : Addr) (od : Obj) (kvs : List (Key × V)) : Hp := upd H d (.frz od (.dK kvs))
theorem unlock {d : Addr} {kvs : List (Key × V)} {od : Obj} {G : Hp} (hd : H d = some (.dK kvs)) (s : Same (locked H d od kvs) G) : Same H (upd G d (.dK kvs)) := fun b o e => by
  by_cases hb : b = d
  · subst hb
    rw [upd_same, ← e, hd]
  · rw [upd_ne hb]
    exact s b o (by show upd H d _ b = _; rw [upd_ne hb]; exact e)
theorem at_lock {d : Addr} {kvs : List (Key × V)} {od : Obj} {G : Hp} (s : Same (locked H d od kvs) G) : G d = some (.frz od (.dK kvs)) := s _ _ upd_same
theorem lock_same {d b : Addr} {kvs : List (Key × V)} {od : Obj} {G : Hp} {o : HO} (s : Same (locked H d od kvs) G) (e : H b = some o) (n : b ≠ d) : G b = some o := s _ _ (by show upd H d _ b = _; rw [upd_ne n]; exact e)
/-- for k in d, d read only -/
theorem l_forK {D : Ends} {tbd : TS} {d : Addr} {kvs : List (Key × V)} {ti : TE} (hi : ∀ (od : Obj) (R : VK), R (.ref d) (locked H d od kvs) → ti σ (locked H d od kvs) R) (hd : H d = some (.dK kvs)) (Iv : Nat → L2.St → Prop) (h0 : Iv 0 σ)
    (turn : ∀ (od : Obj) (i : Nat) (k : Key) (v : V) (τ : L2.St) (G : Hp), kvs[i]? = some (k, v) → Iv i τ → Same (locked H d od kvs) G → ∀ R : L2.St → Hp → Prop, (∀ τ' G', Iv (i + 1) τ' → Same G G' → R τ' G') →
      g (kV k) τ G fun σ2 H2 => tbd ⟨R, fun v H' => H' d = some (.frz od (.dK kvs)) ∧ D.rt v (upd H' d (.dK kvs)), fun σ' H' => H' d = some (.frz od (.dK kvs)) ∧ D.nx σ' (upd H' d (.dK kvs)), R⟩ σ2 H2)
    (done : ∀ τ G, Iv kvs.length τ → Same H G → D.nx τ G) : tLock (tFor (iKeys ti) g tbd) D σ H := by
  refine ⟨d, .dK kvs, hd, trivial, fun od => hi od _ ⟨d, od, rfl, Or.inl ⟨kvs, upd_same, ?_⟩⟩⟩
  refine for_it walk_keys (fun i τ G => Iv i τ ∧ Same (locked H d od kvs) G) ⟨h0, Same.refl _⟩ (fun i τ G _ p => at_lock p.2) (fun i x τ G G' hi p y => ?_) (fun τ G p => ⟨at_lock p.2, done τ _ p.1 (unlock hd p.2)⟩)
  obtain ⟨rfl, k, v, hk, rfl⟩ := y
  exact turn od i k v τ _ hk p.1 p.2 _ fun τ' G' a s => ⟨a, p.2.trans s⟩
/-- {k: v for k in d}, d read only -/
theorem l_dcK {d : Addr} {kvs : List (Key × V)} {ti : TE} (hi : ∀ (od : Obj) (R : VK), R (.ref d) (locked H d od kvs) → ti σ (locked H d od kvs) R) (hd : H d = some (.dK kvs)) (nd : (kvs.map (·.1)).Nodup) (short : kvs.length ≤ 1000) (Pr : Nat → Hp → V → Prop) (bear : ∀ i, Bears (Pr i))
    (key : ∀ (od : Obj) k, k ∈ kvs.map (·.1) → ∀ G, Same (locked H d od kvs) G → ToV tk ((wipe σ [j]).set j (some (kV k))) G (kV k)) (val : ∀ (od : Obj) i k v G, kvs[i]? = some (k, v) → Same (locked H d od kvs) G → ToW tv ((wipe σ [j]).set j (some (kV k))) G (Pr i))
    (fin : ∀ D G ws, H D = none → Same H G → ws.length = kvs.length → (∀ i w, ws[i]? = some w → Pr i G w) → G D = some (.dK ((kvs.map (·.1)).zip ws)) → Q (.ref D) G) : tLockE (tDc (iKeys ti) (gName j) tYes tk tv [j]) σ H Q := by
  refine ⟨d, .dK kvs, hd, trivial, fun od => hi od _ ⟨d, od, rfl, Or.inl ⟨kvs, upd_same, ?_⟩⟩⟩
  have lm : (kvs.map (·.1)).length = kvs.length := List.length_map _
  have w : Walk (Itk d od kvs) (kvs.map (·.1)).length (fun G => G d = some (.frz od (.dK kvs))) (fun i G x G' => G' = G ∧ ∃ k v, kvs[i]? = some (k, v) ∧ x = kV k) := by
    rw [lm]
    exact walk_keys
  refine wdc_of (H := locked H d od kvs) (ks := kvs.map (·.1)) (tv := tv) (Q := fun v H' => H' d = some (.frz od (.dK kvs)) ∧ Q v (upd H' d (.dK kvs))) w (fun i G x G' hi _ y => ?_) (fun G s => at_lock s) nd (by omega) Pr bear (key od) (fun i k G hk s => ?_) (fun D G ws hD s l a e => ?_)
  · obtain ⟨rfl, k, v, hk, rfl⟩ := y
    exact ⟨rfl, k, by rw [List.getElem?_map, hk]; rfl, rfl⟩
  · rw [List.getElem?_map] at hk
    obtain ⟨⟨k', v⟩, hk', rfl⟩ := Option.map_eq_some_iff.mp hk
    exact val od i k' v G hk' s
  · have gd := at_lock s
    have hD' : upd H d (.frz od (.dK kvs)) D = none := hD
    have nD : D ≠ d := fun z => by
      rw [z, upd_same] at hD'
      cases hD'
    refine ⟨gd, fin D _ ws ?_ (unlock hd s) (by omega) (fun i u hu => (bear i).set _ _ _ _ _ gd (fun _ z => by cases z) (a i u hu)) (by rw [upd_ne nD]; exact e)⟩
    rw [upd_ne nD] at hD'
    exact hD'
end
end G9

/-! Dicts as rows of keys: tuple(d), sorted(d); comprehensions over a dict with a test. -/
namespace G9
open PySem PySem.Spec PyProof.Rows L2
/-- what raises nothing here passes -/
theorem passN {X : Cx} : Passes (L2.CX X.prog X.w) X (fun _ _ _ => False) := fun _ _ _ _ _ _ _ h => by
  obtain ⟨_, _, _, _, _, _, _, _, _, _, _, _, f⟩ := h
  exact f.elim
section
variable {X : Cx}
theorem dict_collect {A : Around} {pins : List (Addr × Obj)} {σ : L2.St} {H : Hp} {s : Shared} {a : Addr} {kvs : List (Key × V)} {R : List Value → Shared → Prop} {E : Value → Shared → Prop} (hh : A.handled = none) (I : Inv X pins σ H s) (hd : Rd H a (.dK kvs))
    (h : ∀ (h' : Heap) (tk : Nat) (us : List Value), (∀ b o, s.heap.get? b = some o → h'.get? b = some o) → Vals (kvs.map fun kv => kV kv.1) us → R us { s with heap := h', toks := tk }) : wpAny (model X.prog X.w) A (collect (.ref a)) R E s := by
  obtain ⟨z, lo, vs, rel, dd⟩ := dk_rd I.hok hd
  obtain ⟨ep, hat⟩ := dd.dictAt
  have ek : (kvs.map fun kv => kV kv.1) = vs.map fun p => kV p.1 := by
    have e := congrArg (List.map kV) rel.keys
    rw [List.map_map, List.map_map] at e
    exact e
  refine PySem.W.kdu_collect (PySem.W.kdl_dict (knd := mixKind X.prog X.w) (kvs := vs) (ep := ep) lo) hh hat (by rw [← rel.length]; exact z) fun h' tk acc hk hacc => h h' tk acc.toList hk ?_
  rw [ek]
  exact keys_at (by rw [Array.length_toList]; exact hacc.1) fun j v e => hacc.2 j v (by rw [← Array.getElem?_toList]; exact e)
def rTupleD : List V → Hp → VK → Prop := fun xs H Q => ∃ (a : Addr) (kvs : List (Key × V)), xs = [.ref a] ∧ Rd H a (.dK kvs) ∧ ∀ p, H p = none → Q (.ref p) (upd H p (.tup (kvs.map fun kv => kV kv.1)))
theorem call_tupleD (hc : X.calm = true) : CallR X (.type "tuple") rTupleD := by
  intro pins s σ H xs us Q I r h
  obtain ⟨a, kvs, rfl, hd, q⟩ := h
  obtain ⟨u, rfl, rx⟩ := vals1 r
  obtain rfl : u = Value.ref a := rx
  obtain ⟨z, lo, vs, rel, dd⟩ := dk_rd I.hok hd
  obtain ⟨o, es, ep, ho, ⟨hcl, _⟩, _⟩ := id dd
  have hTI : s.TypeIs (.ref a) "dict" := ⟨o, ho, hcl⟩
  refine callType_codes (Q₁ := fun obj s₁ => s₁.TypeIs obj "tuple" ∧ EP X pins σ Q obj s₁) F.called_tuple (F.typeCall_tuple_1 _) F.entry_object_init ?_ fun obj s₁ h₁ => ?_
  · refine codeAny_of_tree ?_
    show wpAny _ X.A.in1.in1 (do checkBuiltinCall "tuple.__new__" ⟨[.type "tuple", .ref a], []⟩; again (.builtin "tuple.__new__" ⟨[.type "tuple", .ref a], []⟩)) _ _ s
    refine wpAny_bind (wpAny_of_eq (F.newCall_tuple_1 _) (wpAny_pure ⟨plainId_quiet F.plain_tuple_new _, codeAny_builtin F.entry_tuple_new ?_⟩))
    rw [Around.under_plainId F.plain_tuple_new _]
    have hsub := sub_tuple_self
    have hinit := init_tuple_lookup
    have hmh := madeHere_tuple
    have hh1 : X.A.in1.in1.handled = none := I.ok.hd hc
    wp_walk using wpAny_typeOf hTI, dict_collect (A := X.A.in1.in1) hh1 I hd
    intro h' tk us hk rv
    show wpAny _ _ (Builtin.Tuple.tupleExact us.toArray >>= fun v => ret v) _ _ _
    unfold Builtin.Tuple.tupleExact
    have lu : us.length = kvs.length := by rw [← rv.length, List.length_map]
    refine wpAny_bind (wpAny_newObj_type ?_ (by show us.toArray.size ≤ sizeLine; rw [List.size_toArray, lu]; exact z))
    refine wpAny_pure ?_
    have I2 : Inv X pins σ H { s with heap := h', toks := tk } := I.kept hk
    refine ⟨⟨_, Heap.get?_push_size _ rfl, rfl⟩, .ref h'.objs.size, upd H h'.objs.size (.tup (kvs.map fun kv => kV kv.1)), I2.laid (t' := tk) (fun c o e => Heap.get?_push_of_some _ e) (Nat.le_refl _) (show ObjOk X.prog X.w _ _ _ (.tup _) from ⟨?_, us, rv, ?_⟩), rfl, q _ (I2.hok.fresh (Nat.le_refl _))⟩
    · rw [List.length_map]; exact z
    · exact IsTup.new _ _
  · exact ⟨h₁.1, F.args_object_init_2 obj _, object_init_meets F.called_tuple.init.lookup F.called_tuple.made (by decide) X.prog X.w X.A.in1 _ s₁ ⟨h₁.1, rfl, h₁.2⟩⟩
end
end G9

/-! sorted(d); comprehensions over a dict with a test; texts in order, chosen. -/
namespace G9
open PySem PySem.Spec PyProof.Rows L2
section
variable {X : Cx}
/-- sorted(d), d a dict of texts -/
def rSortedD : List V → Hp → VK → Prop := fun vs H Q => ∃ (a : Addr) (kvs : List (Key × V)) (xs : List Str), vs = [V.ref a] ∧ Rd H a (.dK kvs) ∧ kvs.map (·.1) = xs.map Sum.inr ∧ xs.length < 64 ∧
  ∀ (ys : List Str) (p : Addr), ys.Perm xs → sortedS ys = true → H p = none → Q (.ref p) (upd H p (.lst (ys.map V.str)))
theorem call_sortedK (hc : X.calm = true) : CallR X (.builtin "sorted") rSortedD := by
  intro pins s σ H vs us Q I r h
  obtain ⟨a, kvs, xs, rfl, hd, ek, h64, q⟩ := h
  obtain ⟨u, rfl, rx⟩ := vals1 r
  obtain rfl : u = Value.ref a := rx
  have ev : (kvs.map fun kv => kV kv.1) = xs.map V.str := by
    have e := congrArg (List.map kV) ek
    rw [List.map_map, List.map_map] at e
    exact e
  refine Calls.call_function_entry PyProof.Rows.kind_sorted PyProof.Rows.plain_sorted PyProof.Rows.entry_sorted (PyProof.Rows.args_sorted1 _) ?_
  unfold Builtin.«sorted»
  refine wpAny_bind (m := checkCount "sorted" 1 1 _) (wpAny_pure ?_)
  refine wpAny_bind (dict_collect (A := X.A.in1) (I.ok.hd hc) I hd fun h' tk its hk rv => ?_)
  rw [ev] at rv
  have hlen := rv.length
  rw [List.length_map] at hlen
  have hS : StrsAre its xs := rv.strs
  have I1 : Inv X pins σ H { s with heap := h', toks := tk } := I.kept (t' := tk) hk
  refine wpAny_bind (wpAny_newList ?_ (by rw [← hlen, sizeLine_eq]; omega))
  have hoL : (h'.push (seqObj "list" its.toArray 0)).get? h'.objs.size = some (seqObj "list" its.toArray 0) := Heap.get?_push_size _ rfl
  show wpAny _ _ _ _ _ { s with heap := h'.push (seqObj "list" its.toArray 0), toks := tk }
  refine wpAny_bind (wpAny_holding (wpAny_call_entry PyProof.Rows.slot_list_sort ⟨_, hoL, rfl⟩ PyProof.Rows.entry_list_sort
    (list_sort_treeK strKind_oneLt (s := { s with heap := h'.push (seqObj "list" its.toArray 0), toks := tk }) hoL hS.keysOf (fun v₁ v₂ rest e => keyKind_strs (by rw [← e]; exact hS)) (by rw [← hlen]; exact h64) fun st' hp hs => ⟨_, rfl, ?_⟩) (PyProof.Rows.args_list_sort _)))
  obtain ⟨ys, g1, g2, g3⟩ := sorted_out_str hS hp hs
  obtain ⟨e', he'⟩ := PyProof.Rows.sortedHeap_at (vs := its) (out := (arrOf st').map (·.2)) hoL
  have lz : (ys.map V.str).length ≤ sizeLine := by
    rw [List.length_map, g2.length_eq, sizeLine_eq]
    omega
  have mine : ObjOk X.prog X.w (upd H h'.objs.size (.lst (ys.map V.str))) (PyProof.Rows.sortedHeap (h'.push (seqObj "list" its.toArray 0)) h'.objs.size its ((arrOf st').map (·.2))) h'.objs.size (.lst (ys.map V.str)) :=
    ⟨lz, ((arrOf st').map (·.2)).toList, e', vals_of_strs g1, by rw [Array.toArray_toList]; exact he'⟩
  refine wpAny_pure ⟨_, rfl, .ref h'.objs.size, upd H h'.objs.size (.lst (ys.map V.str)), I1.laid (t' := tk) (fun b u e => ?_) (Nat.le_refl _) mine, rfl, q ys _ g2 g3 (I1.hok.fresh (Nat.le_refl _))⟩
  have hb : b < h'.objs.size := Heap.lt_size e
  rw [PyProof.Rows.sortedHeap_old (Nat.ne_of_lt hb) (by rw [size_push']; exact Nat.lt_succ_of_lt hb)]
  exact Heap.get?_push_of_some _ e
end
/-! ### texts in order, chosen -/
def leB (x y : Str) : Bool := decide (leS x y)
def sortS (l : List Str) : List Str := l.mergeSort leB
theorem leS_trans {x y z : Str} (a : leS x y) (b : leS y z) : leS x z := by
  rcases leS_iff.mp a with a | rfl
  · rcases leS_iff.mp b with b | rfl
    · exact leS_iff.mpr (Or.inl (ltS_trans a b))
    · exact leS_iff.mpr (Or.inl a)
  · exact b
theorem leS_total (x y : Str) : leS x y ∨ leS y x := by
  by_cases h : leS x y
  · exact Or.inl h
  · refine Or.inr (leS_iff.mpr (Or.inl ?_))
    show ltCps y.cps.toList x.cps.toList = true
    cases q : ltCps y.cps.toList x.cps.toList with
    | true => rfl
    | false => exact absurd (show leS x y from q) h
theorem leS_anti {x y : Str} (a : leS x y) (b : leS y x) : x = y := by
  rcases leS_iff.mp a with a | e
  · rcases leS_iff.mp b with b | e
    · exact absurd (ltS_trans a b) (ltS_irrefl x)
    · exact e.symm
  · exact e
theorem sortS_perm (l : List Str) : (sortS l).Perm l := List.mergeSort_perm l leB
theorem sortS_le (l : List Str) : (sortS l).Pairwise leS := by
  have h := List.pairwise_mergeSort (le := leB) (fun a b c x y => decide_eq_true (leS_trans (of_decide_eq_true x) (of_decide_eq_true y))) (fun a b => by
    rcases leS_total a b with h | h
    · show (leB a b || leB b a) = true
      rw [show leB a b = true from decide_eq_true h, Bool.true_or]
    · show (leB a b || leB b a) = true
      rw [show leB b a = true from decide_eq_true h, Bool.or_true]) l
  exact List.Pairwise.imp (fun z => of_decide_eq_true z) h
theorem le_unique : ∀ {l m : List Str}, l.Pairwise leS → m.Pairwise leS → l.Perm m → l = m
  | [], m, _, _, p => (List.nil_perm.mp p).symm
  | x :: r, [], _, _, p => absurd p.length_eq (by simp)
  | x :: r, y :: t, a, b, p => by
    have a1 := List.pairwise_cons.mp a
    have b1 := List.pairwise_cons.mp b
    have e : x = y := by
      have hx : x ∈ y :: t := p.mem_iff.mp List.mem_cons_self
      have hy : y ∈ x :: r := p.mem_iff.mpr List.mem_cons_self
      rcases List.mem_cons.mp hx with h | h
      · exact h
      · rcases List.mem_cons.mp hy with h' | h'
        · exact h'.symm
        · exact leS_anti (a1.1 y h') (b1.1 x h)
    subst e
    rw [le_unique a1.2 b1.2 (List.Perm.cons_inv p)]
theorem sortS_of {xs ys : List Str} (p : ys.Perm xs) (s : sortedS ys = true) : ys = sortS xs := le_unique (sortedS_iff.mp s) (sortS_le xs) (p.trans (sortS_perm xs).symm)
theorem sortS_asc {xs : List Str} (nd : xs.Nodup) : Asc (sortS xs) := asc_of (sortedS_iff.mpr (sortS_le xs)) ((sortS_perm xs).nodup_iff.mpr nd)
theorem sortS_id {xs : List Str} (a : Asc xs) : sortS xs = xs := le_unique (sortS_le xs) (a.imp fun h => leS_iff.mpr (Or.inl h)) (sortS_perm xs)
theorem sortS_congr {xs ys : List Str} (p : xs.Perm ys) : sortS xs = sortS ys := le_unique (sortS_le xs) (sortS_le ys) ((sortS_perm xs).trans (p.trans (sortS_perm ys).symm))
section
variable {K : PySem.W.Frag} {σ : L2.St} {H : Hp} {Q : VK} {p : Addr} {t : TT} {te tk tv : TE} {j : Nat}
def rSortL (K : PySem.W.Frag) (v : V) (H : Hp) (Q : VK) : Prop := rSortedS K [v] H Q
theorem l_sortL {a : Addr} {xs : List Str} (h : SqL K H a (xs.map V.str)) (h64 : xs.length < 64) (q : ∀ p G, H p = none → Same H G → G p = some (.lst ((sortS xs).map V.str)) → Q (.ref p) G) : rSortedS K [.ref a] H Q :=
  ⟨a, xs, rfl, h, h64, fun ys p g2 g3 n => q p _ n (same0 n) (by rw [upd_same, sortS_of g2 g3])⟩
theorem l_sortT {a : Addr} {xs : List Str} (h : SqT K H a (xs.map V.str)) (h64 : xs.length < 64) (q : ∀ p G, H p = none → Same H G → G p = some (.lst ((sortS xs).map V.str)) → Q (.ref p) G) : rSortedT K [.ref a] H Q :=
  ⟨a, xs, rfl, h, h64, fun ys p g2 g3 n => q p _ n (same0 n) (by rw [upd_same, sortS_of g2 g3])⟩
theorem l_sortD {a : Addr} {kvs : List (Key × V)} {xs : List Str} (h : Rd H a (.dK kvs)) (e : kvs.map (·.1) = xs.map Sum.inr) (h64 : xs.length < 64) (q : ∀ p G, H p = none → Same H G → G p = some (.lst ((sortS xs).map V.str)) → Q (.ref p) G) : rSortedD [.ref a] H Q :=
  ⟨a, kvs, xs, rfl, h, e, h64, fun ys p g2 g3 n => q p _ n (same0 n) (by rw [upd_same, sortS_of g2 g3])⟩
theorem l_tupleD {a : Addr} {kvs : List (Key × V)} (h : Rd H a (.dK kvs)) (q : ∀ p G, H p = none → Same H G → G p = some (.tup (kvs.map fun kv => kV kv.1)) → Q (.ref p) G) : rTupleD [.ref a] H Q :=
  ⟨a, kvs, rfl, h, fun p n => q p _ n (same0 n) upd_same⟩
/-- [.. for k in d if ..], d read only -/
theorem s_lcK {ti : TE} (q : tLockE (tLc (iKeys ti) (gName j) t te [j]) σ H Q) : tLockE (tLc (iKeys ti) (gName j) t te [j]) σ H Q := q
theorem l_lcK {d : Addr} {kvs : List (Key × V)} {ti : TE} (hi : ∀ (od : Obj) (R : VK), R (.ref d) (locked H d od kvs) → ti σ (locked H d od kvs) R) (hd : H d = some (.dK kvs)) (keep : V → Bool) (f : V → V) (short : kvs.length ≤ 1000)
    (test : ∀ (od : Obj) k, k ∈ kvs.map (·.1) → ∀ G, Same (locked H d od kvs) G → ToB t ((wipe σ [j]).set j (some (kV k))) G (keep (kV k)))
    (val : ∀ (od : Obj) k, k ∈ kvs.map (·.1) → keep (kV k) = true → ∀ G, Same (locked H d od kvs) G → ToV te ((wipe σ [j]).set j (some (kV k))) G (f (kV k)))
    (fin : ∀ D G, H D = none → Same H G → G D = some (.lst (((kvs.map fun p => kV p.1).filter keep).map f)) → Q (.ref D) G) : tLockE (tLc (iKeys ti) (gName j) t te [j]) σ H Q := by
  refine ⟨d, .dK kvs, hd, trivial, fun od => hi od _ ⟨d, od, rfl, Or.inl ⟨kvs, upd_same, ?_⟩⟩⟩
  have lm : (kvs.map fun p => kV p.1).length = kvs.length := List.length_map _
  have w : Walk (Itk d od kvs) (kvs.map fun p => kV p.1).length (fun G => G d = some (.frz od (.dK kvs))) (YAt (kvs.map fun p => kV p.1)) := by
    rw [lm]
    refine walk_keys.mono (fun _ h => h) fun i H x H' hi _ y => ?_
    obtain ⟨rfl, k, v, hk, rfl⟩ := y
    refine ⟨rfl, ?_⟩
    rw [List.getElem?_map, hk]
    rfl
  have back : ∀ x ∈ kvs.map (fun p => kV p.1), ∃ k, k ∈ kvs.map (·.1) ∧ x = kV k := fun x hx => by
    obtain ⟨pp, hp, rfl⟩ := List.mem_map.mp hx
    exact ⟨pp.1, List.mem_map_of_mem hp, rfl⟩
  refine wlc_of (H := locked H d od kvs) (te := te) (t := t) (Q := fun v H' => H' d = some (.frz od (.dK kvs)) ∧ Q v (upd H' d (.dK kvs))) w (fun G s => at_lock s) keep f (by omega) (fun x hx G s => ?_) (fun x hx kp G s => ?_) (fun D G hD s e => ?_)
  · obtain ⟨k, hk, rfl⟩ := back x hx
    exact test od k hk G s
  · obtain ⟨k, hk, rfl⟩ := back x hx
    exact val od k hk kp G s
  · have gd := at_lock s
    have hD' : upd H d (.frz od (.dK kvs)) D = none := hD
    have nD : D ≠ d := fun z => by
      rw [z, upd_same] at hD'
      cases hD'
    refine ⟨gd, fin D _ ?_ (unlock hd s) (by rw [upd_ne nD]; exact e)⟩
    rw [upd_ne nD] at hD'
    exact hD'
end
end G9

/-! Comprehensions that make dicts, with a test; each value told by its key. -/
namespace G9
open PySem PySem.Spec PyProof.Rows L2
/-- rows of a dict with told values -/
def Ents (Pr : Key → Hp → V → Prop) (G : Hp) : List Key → List (Key × V) → Prop := Paired fun k w => k = w.1 ∧ Pr k G w.2
theorem Ents.keys {Pr : Key → Hp → V → Prop} {G : Hp} {ks : List Key} {ws : List (Key × V)} (h : Ents Pr G ks ws) : ws.map (·.1) = ks := by
  unfold Ents at h
  induction h with
  | nil => rfl
  | cons a _ ih => rw [List.map_cons, ih, ← a.1]
theorem Ents.mono {Pr : Key → Hp → V → Prop} {G G' : Hp} {ks : List Key} {ws : List (Key × V)} (h : Ents Pr G ks ws) (m : ∀ k v, Pr k G v → Pr k G' v) : Ents Pr G' ks ws := Paired.mono (fun k w a => ⟨a.1, m k _ a.2⟩) h
theorem paired_of_map {α β γ : Type} {F : β → γ → Prop} {f : α → β} : ∀ {l : List α} {ws : List γ}, Paired F (l.map f) ws → Paired (fun a b => F (f a) b) l ws
  | [], [], _ => .nil
  | [], _ :: _, h => nomatch h
  | _ :: _, [], h => nomatch h
  | _ :: _, _ :: _, .cons a t => .cons a (paired_of_map t)
section
variable {K : PySem.W.Frag} {σ : L2.St} {H : Hp} {g : TG} {tt : TT} {tk tv te : TE} {j : Nat} {Q : VK} {x : V}
theorem wdc_p {J : It} {ks : List Key} {Gd : Hp → Prop} {Y : Nat → Hp → V → Hp → Prop} (w : Walk J ks.length Gd Y) (yld : ∀ i G x G', i < ks.length → Gd G → Y i G x G' → G' = G ∧ ∃ k, ks[i]? = some k ∧ x = kV k) (stay : ∀ G, Same H G → Gd G) (nd : ks.Nodup) (short : ks.length ≤ 1000)
    (keep : Key → Bool) (Pr : Key → Hp → V → Prop) (bear : ∀ k, Bears (Pr k)) (test : ∀ k ∈ ks, ∀ G, Same H G → ToB tt ((wipe σ [j]).set j (some (kV k))) G (keep k))
    (key : ∀ k ∈ ks, keep k = true → ∀ G, Same H G → ToV tk ((wipe σ [j]).set j (some (kV k))) G (kV k)) (val : ∀ k ∈ ks, keep k = true → ∀ G, Same H G → ToW tv ((wipe σ [j]).set j (some (kV k))) G (Pr k))
    (fin : ∀ D G ws, H D = none → Same H G → Ents Pr G (ks.filter keep) ws → G D = some (.dK ws) → Q (.ref D) G) : WDc J (gName j) tt tk tv [j] σ Q H := by
  intro D hD
  refine ⟨fun i m G => m = ks.length - i ∧ i ≤ ks.length ∧ ∃ ws : List (Key × V), Same H G ∧ G D = some (.dK ws) ∧ Ents Pr G ((ks.take i).filter keep) ws, ⟨ks.length, by omega, Nat.zero_le _, [], Same.upd0 hD, upd_same, by rw [List.take_zero]; exact .nil⟩, ?_⟩
  rintro i m G ⟨rfl, hi, ws, sG, gD, all⟩
  by_cases hlt : i < ks.length
  · refine Or.inr ⟨w.goes i G hlt (stay G sG), fun G' => i + 1 ≤ ks.length ∧ ∃ ws : List (Key × V), Same H G' ∧ G' D = some (.dK ws) ∧ Ents Pr G' ((ks.take (i + 1)).filter keep) ws,
      fun G' h => ⟨ks.length - (i + 1), by omega, rfl, h⟩, fun x G' y => ?_⟩
    obtain ⟨rfl, k, hk, rfl⟩ := yld i G x G' hlt (stay G sG) (w.yields i G x G' hlt (stay G sG) y)
    have mem := List.mem_of_getElem? hk
    have tk1 : ks.take (i + 1) = ks.take i ++ [k] := by
      rw [List.take_add_one, hk]
      rfl
    refine s_name ⟨?_, ?_⟩
    · show (((σ.set j none).set j (some (kV k))).set j none) = σ.set j none
      rw [List.set_set, List.set_set]
    refine test k mem _ sG _ fun G0 s0 => ?_
    cases hkp : keep k with
    | false =>
      refine i_f rfl ⟨by omega, ws, sG.trans s0, s0 _ _ gD, ?_⟩
      rw [tk1, List.filter_append, List.filter_cons, if_neg (by rw [hkp]; exact Bool.false_ne_true), List.filter_nil, List.append_nil]
      exact all.mono fun k v p => (bear k).same _ _ _ s0 p
    | true =>
      refine i_t rfl ?_
      refine key k mem hkp _ (sG.trans s0) _ fun G1 s1 => val k mem hkp _ ((sG.trans s0).trans s1) _ fun z G2 s2 pz => ?_
      have s02 := (s0.trans s1).trans s2
      have gD2 := s02 _ _ gD
      have lt : (ks.take i).length = i := by rw [List.length_take]; omega
      have fresh : k ∉ (ks.take i).filter keep := fun hm => by
        have hm := (List.mem_filter.mp hm).1
        obtain ⟨l, hl, e⟩ := List.getElem_of_mem hm
        rw [lt] at hl
        rw [List.getElem_take] at e
        obtain ⟨hi2, e2⟩ := List.getElem?_eq_some_iff.mp hk
        exact List.pairwise_iff_getElem.mp nd l i (by omega) hi2 hl (e.trans e2.symm)
      have new : putK ws k z = ws ++ [(k, z)] := by
        refine putK_new z ?_
        cases e : valV ws k with
        | none => rfl
        | some v =>
          have m := valV_in e
          rw [all.keys] at m
          exact absurd m fresh
      have keepP : ∀ (k' : Key) u, Pr k' G2 u → Pr k' (upd G2 D (.dK (putK ws k z))) u := fun k' u p => (bear k').set _ _ _ _ _ gD2 (fun _ e => by cases e) p
      refine ⟨_, k, rfl, gD2, ?_, by omega, putK ws k z, Same.setNew (sG.trans s02) hD, upd_same, ?_⟩
      · have hl := all.keys
        have hl : ws.length = ((ks.take i).filter keep).length := by rw [← hl, List.length_map]
        have := List.length_filter_le keep (ks.take i)
        rw [hl, sizeLine_eq]
        omega
      · rw [tk1, List.filter_append, List.filter_cons, if_pos hkp, List.filter_nil]
        have done : Ents Pr (upd G2 D (.dK (putK ws k z))) ((ks.take i).filter keep) ws := (all.mono fun k' u p => keepP k' u ((bear k').same _ _ _ s02 p))
        rw [show (upd G2 D (.dK (putK ws k z))) = (upd G2 D (.dK (putK ws k z))) from rfl]
        have fin2 := Paired.snoc done (a := k) (b := (k, z)) ⟨rfl, keepP k z pz⟩
        rw [← new] at fin2
        exact fin2
  · have e : i = ks.length := by omega
    subst e
    rw [List.take_length] at all
    exact Or.inl ⟨w.stops G (stay G sG), fin D G ws hD sG all gD⟩
/-- over a list of texts -/
theorem s_dcLp {vs : List Nat} (q : te σ H fun v H1 => LstDc K g tt tk tv vs σ Q v H1) : tDc (iList K te) g tt tk tv vs σ H Q := q
theorem l_dcLp {p : Addr} {ks : List Str} (h : SqL K H p (ks.map V.str)) (nd : ks.Nodup) (short : ks.length ≤ 1000) (keep : Str → Bool) (Pr : Str → Hp → V → Prop) (bear : ∀ k, Bears (Pr k)) (test : ∀ k ∈ ks, ∀ G, Same H G → ToB tt ((wipe σ [j]).set j (some (.str k))) G (keep k))
    (key : ∀ k ∈ ks, keep k = true → ∀ G, Same H G → ToV tk ((wipe σ [j]).set j (some (.str k))) G (.str k)) (val : ∀ k ∈ ks, keep k = true → ∀ G, Same H G → ToW tv ((wipe σ [j]).set j (some (.str k))) G (Pr k))
    (fin : ∀ D G ws, H D = none → Same H G → Paired (fun k w => w.1 = Sum.inr k ∧ Pr k G w.2) (ks.filter keep) ws → G D = some (.dK ws) → Q (.ref D) G) : LstDc K (gName j) tt tk tv [j] σ Q (.ref p) H := by
  refine ⟨p, rfl, ⟨_, h⟩, ?_⟩
  have lm : (ks.map (Sum.inr : Str → Key)).length = ks.length := List.length_map _
  have w : Walk (Itl K p) (ks.map (Sum.inr : Str → Key)).length (fun G => SqL K G p (ks.map V.str)) (YAt (ks.map V.str)) := by
    have := walk_list (K := K) (a := p) (xs := ks.map V.str)
    rwa [List.length_map, ← lm] at this
  have strOf : ∀ k ∈ ks.map (Sum.inr : Str → Key), ∃ s, s ∈ ks ∧ k = Sum.inr s := fun k hk => by
    obtain ⟨s, hs, rfl⟩ := List.mem_map.mp hk
    exact ⟨s, hs, rfl⟩
  refine wdc_p w (fun i G x G' hi _ y => ?_) (fun G s => s.seq h) (List.pairwise_map.mpr (List.Pairwise.imp (fun n e => n (Sum.inr.inj e)) nd)) (by omega) (fun k => match k with | .inr s => keep s | .inl _ => false) (fun k => match k with | .inr s => Pr s | .inl _ => fun _ _ => True)
    (fun k => ?_) (fun k hk G s => ?_) (fun k hk kp G s => ?_) (fun k hk kp G s => ?_) (fun D G ws hD s en e => fin D G ws hD s ?_ e)
  · obtain ⟨rfl, hx⟩ := y
    rw [List.getElem?_map] at hx
    obtain ⟨s, hs, rfl⟩ := Option.map_eq_some_iff.mp hx
    exact ⟨rfl, Sum.inr s, by rw [List.getElem?_map, hs]; rfl, rfl⟩
  · cases k with
    | inl i => exact ⟨fun _ _ _ _ _ => trivial, fun _ _ _ _ _ _ _ _ => trivial⟩
    | inr s => exact bear s
  · obtain ⟨s', hs', rfl⟩ := strOf k hk
    exact test s' hs' G s
  · obtain ⟨s', hs', rfl⟩ := strOf k hk
    exact key s' hs' kp G s
  · obtain ⟨s', hs', rfl⟩ := strOf k hk
    exact val s' hs' kp G s
  · rw [List.filter_map] at en
    exact Paired.mono (fun k w a => ⟨a.1.symm, a.2⟩) (paired_of_map en)
/-- over a dict, read only -/
theorem l_dcKp {d : Addr} {kvs : List (Key × V)} {ti : TE} (hi : ∀ (od : Obj) (R : VK), R (.ref d) (locked H d od kvs) → ti σ (locked H d od kvs) R) (hd : H d = some (.dK kvs)) (nd : (kvs.map (·.1)).Nodup) (short : kvs.length ≤ 1000) (keep : Key → Bool) (Pr : Key → Hp → V → Prop) (bear : ∀ k, Bears (Pr k))
    (test : ∀ (od : Obj), ∀ k ∈ kvs.map (·.1), ∀ G, Same (locked H d od kvs) G → ToB tt ((wipe σ [j]).set j (some (kV k))) G (keep k))
    (key : ∀ (od : Obj), ∀ k ∈ kvs.map (·.1), keep k = true → ∀ G, Same (locked H d od kvs) G → ToV tk ((wipe σ [j]).set j (some (kV k))) G (kV k))
    (val : ∀ (od : Obj), ∀ k ∈ kvs.map (·.1), keep k = true → ∀ G, Same (locked H d od kvs) G → ToW tv ((wipe σ [j]).set j (some (kV k))) G (Pr k))
    (fin : ∀ D G ws, H D = none → Same H G → Ents Pr G ((kvs.map (·.1)).filter keep) ws → G D = some (.dK ws) → Q (.ref D) G) : tLockE (tDc (iKeys ti) (gName j) tt tk tv [j]) σ H Q := by
  refine ⟨d, .dK kvs, hd, trivial, fun od => hi od _ ⟨d, od, rfl, Or.inl ⟨kvs, upd_same, ?_⟩⟩⟩
  have lm : (kvs.map (·.1)).length = kvs.length := List.length_map _
  have w : Walk (Itk d od kvs) (kvs.map (·.1)).length (fun G => G d = some (.frz od (.dK kvs))) (fun i G x G' => G' = G ∧ ∃ k v, kvs[i]? = some (k, v) ∧ x = kV k) := by
    rw [lm]
    exact walk_keys
  refine wdc_p (H := locked H d od kvs) (ks := kvs.map (·.1)) (tv := tv) (tt := tt) (Q := fun v H' => H' d = some (.frz od (.dK kvs)) ∧ Q v (upd H' d (.dK kvs))) w (fun i G x G' hi _ y => ?_) (fun G s => at_lock s) nd (by omega) keep Pr bear (test od) (key od) (val od) (fun D G ws hD s en e => ?_)
  · obtain ⟨rfl, k, v, hk, rfl⟩ := y
    exact ⟨rfl, k, by rw [List.getElem?_map, hk]; rfl, rfl⟩
  · have gd := at_lock s
    have hD' : upd H d (.frz od (.dK kvs)) D = none := hD
    have nD : D ≠ d := fun z => by
      rw [z, upd_same] at hD'
      cases hD'
    refine ⟨gd, fin D _ ws ?_ (unlock hd s) (en.mono fun k u p => (bear k).set _ _ _ _ _ gd (fun _ z => by cases z) p) (by rw [upd_ne nD]; exact e)⟩
    rw [upd_ne nD] at hD'
    exact hD'
end
end G9

/-! Small readings: kinds, texts in order, tuples. -/
namespace G9
open PySem PySem.Spec PyProof.Rows L2
theorem TyX_same {K : PySem.W.Frag} {H G : Hp} {x : V} {t : Value} (s : Same H G) (h : TyX K H x t) : TyX K G x t := by
  cases h with
  | base b =>
    cases b with
    | non => exact .base .non
    | bl b => exact .base (.bl b)
    | int i => exact .base (.int i)
    | str i => exact .base (.str i)
    | flt i => exact .base (.flt i)
    | lst e => exact .base (.lst (s _ _ e))
    | frz e => exact .base (.frz (s _ _ e))
    | tup e => exact .base (.tup (s _ _ e))
    | dK e => exact .base (.dK (s _ _ e))
    | dT e => exact .base (.dT (s _ _ e))
    | ins e c ha hn ht hm => exact .base (.ins (s _ _ e) c ha hn ht hm)
  | byt b => exact .byt b
  | set e => exact .set (s _ _ e)
  | kList e c => exact .kList e c
  | kTuple e c => exact .kTuple e c
  | kDict e c => exact .kDict e c
  | fTuple e => exact .fTuple (s _ _ e)
  | fDict e => exact .fDict (s _ _ e)
theorem NotStr.same {K : PySem.W.Frag} {H G : Hp} {x : V} (s : Same H G) (h : NotStr K H x) : NotStr K G x := by
  obtain ⟨t, ty, k⟩ := h
  exact ⟨t, TyX_same s ty, k⟩
theorem NotStr.no {K : PySem.W.Frag} {H : Hp} {s : Str} (h : NotStr K H (.str s)) : False := by
  obtain ⟨t, ty, kk⟩ := h
  cases ty with
  | base b =>
    cases b
    have k2 : PySem.W.kitOne K (.type "str") (.type "str") = some true := kit_ty (by decide +kernel)
    rw [k2] at kk
    cases kk
section
variable {K : PySem.W.Frag} {σ : L2.St} {H : Hp} {Q : VK} {x y v : V} {p : Addr} {xs : List V}
theorem l_isi {T U : String} {b : Bool} (ty : TyX K H x (.type T)) (k : PySem.W.kitOne K (.type T) (.type U) = some b) (q : Q (.bl b) H) : rIsi K [x, .ty U] H Q := ⟨_, _, _, _, b, rfl, .ty U, ty, k, q⟩
theorem tup_at (e : H p = some (.tup xs)) : SqT K H p xs := Or.inl (Or.inl e)
theorem l_isTup (e : H p = some (.tup xs)) (q : Q (.bl true) H) : rIsi K [.ref p, .ty "tuple"] H Q := l_isi (.base (.tup e)) (kit_ty (by decide +kernel)) q
theorem l_isDict {kvs : List (Key × V)} (e : H p = some (.dK kvs)) (q : Q (.bl true) H) : rIsi K [.ref p, .ty "dict"] H Q := l_isi (.base (.dK e)) (kit_ty (by decide +kernel)) q
theorem l_isInt {i : Int} (q : Q (.bl true) H) : rIsi K [.int i, .ty "int"] H Q := l_isi (.base (.int i)) (kit_ty (by decide +kernel)) q
theorem l_intBool {i : Int} (q : Q (.bl false) H) : rIsi K [.int i, .ty "bool"] H Q := l_isi (.base (.int i)) (kit_ty (by decide +kernel)) q
theorem ltC_lt : ∀ {a b : List Nat}, a < b ↔ ltCps a b = true
  | [], [] => ⟨fun h => absurd h (List.not_lt_nil _), fun h => absurd h (by decide)⟩
  | [], _ :: _ => ⟨fun _ => rfl, fun _ => List.nil_lt_cons _ _⟩
  | _ :: _, [] => ⟨fun h => absurd h (List.not_lt_nil _), fun h => absurd h (by simp [ltCps])⟩
  | a :: r, b :: t => by rw [ltC_cons, List.cons_lt_cons_iff, ltC_lt]
theorem dec_lt {x y : Str} : decide (x.cps.toList < y.cps.toList) = decide (ltS x y) := by
  by_cases h : ltS x y
  · rw [decide_eq_true h, decide_eq_true (ltC_lt.mpr h)]
  · rw [decide_eq_false h, decide_eq_false (fun z => h (ltC_lt.mp z))]
theorem l_leS2 {Q : VK} {y z : Str} (q : Q (.bl (!decide (ltS z y))) H) : rLeStr (.str y) (.str z) H Q := l_leS (by rw [dec_lt]; exact q)
theorem l_cmp {i j : Int} {f : Int → Int → V} (q : Q (f i j) H) : rI0 f (.int i) (.int j) H Q := l_I0 q
def rTupleOf (K : PySem.W.Frag) : List V → Hp → VK → Prop := fun xs H Q => ∃ p ys, xs = [.ref p] ∧ ((SqL K H p ys ∧ ∀ l, H l = none → Q (.ref l) (upd H l (.tup ys))) ∨ (SqT K H p ys ∧ Q (.ref p) H))
theorem c_tuple {X : Cx} : CallR X (.type "tuple") (rTupleOf X.K) := call_tuple_of
theorem l_tupL {a : Addr} (h : SqL K H a xs) (q : ∀ p G, H p = none → Same H G → G p = some (.tup xs) → Q (.ref p) G) : rTupleOf K [.ref a] H Q :=
  ⟨a, xs, rfl, Or.inl ⟨h, fun l n => q l _ n (same0 n) upd_same⟩⟩
theorem l_inR {l : List Str} {s : Str} (h : SqT K H p (l.map V.str)) (q : Q (.bl (decide (s ∈ l))) H) : rIn K false (.str s) (.ref p) H Q := by
  refine ⟨p, _, rfl, Or.inr h, rfl, ?_, ?_⟩
  · rw [List.all_map, List.all_eq_true]
    intro _ _
    rfl
  · rw [if_neg Bool.false_ne_true]
    have e : inV (.str s) (l.map V.str) = decide (s ∈ l) := by
      unfold inV
      rw [List.any_map, Bool.eq_iff_iff, List.any_eq_true, decide_eq_true_iff]
      constructor
      · rintro ⟨z, hz, e⟩
        have e : (z == s) = true := e
        rw [beq_iff_eq] at e
        exact e ▸ hz
      · exact fun h => ⟨s, h, beq_self_eq_true s⟩
    rw [e]
    exact q
theorem l_ixT {i : Int} (h : SqT K H p xs) (a : atI xs i = some v) (q : Q v H) : rIxT K (.ref p) (.int i) H Q := ⟨p, xs, i, v, rfl, rfl, h, a, q⟩
theorem l_catT {a b : Addr} {ys : List V} (ha : SqT K H a xs) (hb : SqT K H b ys) (nx : xs ≠ []) (ny : ys ≠ []) (sz : xs.length + ys.length ≤ sizeLine) (q : ∀ p G, H p = none → Same H G → G p = some (.tup (xs ++ ys)) → Q (.ref p) G) : rCatT K (.ref a) (.ref b) H Q :=
  ⟨a, b, xs, ys, rfl, rfl, ha, hb, nx, sz, fun z => absurd z ny, fun _ p n => q p _ n (same0 n) upd_same⟩
def RMakeKW (C : Addr) (m : Nat) (ks : List Str) (sp : Sp) (E : XK) (zs : List V) (H2 : Hp) (Q : VK) : Prop := zs.length = m ∧ ∀ x dx, H2 x = none → H2 dx = none → dx ≠ x →
  ∀ D, upd (upd H2 dx (.own x)) x (.ins C dx []) D = none → sp [.ref x, .ref D] (upd (upd (upd H2 dx (.own x)) x (.ins C dx [])) D (.dK (kwV ks zs))) (fun v H3 => v = .non ∧ Q (.ref x) H3) E
theorem s_makeKW {C : Addr} {m : Nat} {ks : List Str} {sp : Sp} {E : XK} {tk : TA} (q : tk σ H fun zs H2 => RMakeKW C m ks sp E zs H2 Q) : tMakeKW C m ks sp E tk σ H Q := q
theorem toW_is {te : TE} {τ : L2.St} {G : Hp} {v : V} {Pr : Hp → V → Prop} (t : ToV te τ G v) (p : ∀ G', Same G G' → Pr G' v) : ToW te τ G Pr := fun R r => t R fun G' s => r v G' s (p G' s)
end
end G9

/-! Two dicts put together in a display. -/
namespace G9
open PySem PySem.Spec PyProof.Rows L2
section
variable {prog : Program} {w : World} {κ : Type} [DecidableEq κ] {knd : KeyKind prog w κ} {A : Around} {E : Value → Shared → Prop} {s : Shared}
theorem put_pairs {d : Addr} {kvs : List (κ × Value)} {k : κ} {key v : Value} {Q : Unit → Shared → Prop} (hkey : knd.is k key = true) (hm : s.heap.DictOf knd d kvs)
    (hQ : ∀ h', h'.DictOf knd d (stored kvs k v) → Heap.SameBut d s.heap h' → Q () { s with heap := h' }) (hsz : kvs.length ≤ sizeLine) : wpAny (model prog w) A (dictPut d (knd.hash k) key v) Q E s := by
  obtain ⟨o, es, ep, ho, hc, hd, hk, hp, hn⟩ := hm
  have hes : es.size ≤ sizeLine := by
    have e1 := hp.length
    have e2 : es.toList.length = es.size := by simp
    omega
  unfold dictPut
  refine wpAny_bind (wpAny_dictFind_of hkey ho hd hk ?_)
  have hidx : (es.findIdx? fun e => knd.is k e.key) = kvs.findIdx? fun kv => decide (kv.1 = k) := by
    rw [← hp.findIdx k]
    obtain ⟨l⟩ := es
    simp
  cases hi : es.findIdx? fun e => knd.is k e.key with
  | some i =>
    refine wpAny_updateDict ho hd (hQ _ ⟨_, _, ep, Heap.get?_update_self _ ho (Obj.isFreed_of_dict (Obj.data_mapDict hd _)), hc.mapDict _, Obj.data_mapDict hd _, hk.modify _ _, ?_, ?_⟩ (Heap.SameBut.update ..))
    · rw [stored, if_pos (any_of_findIdx_some (hidx ▸ hi))]
      have hl : (es.toList.findIdx? fun e => knd.is k e.key) = some i := by
        rw [← hi]
        obtain ⟨l⟩ := es
        simp
      have := hp.modify hn hl v
      obtain ⟨l⟩ := es
      simpa using this
    · rw [stored, if_pos (any_of_findIdx_some (hidx ▸ hi)), keys_map_store]
      exact hn
  | none =>
    have hnot : k ∉ kvs.map (·.1) := not_mem_of_findIdx_none (hidx ▸ hi)
    have hany : ¬ (kvs.any fun kv => decide (kv.1 = k)) = true := by
      rw [List.any_eq_true]
      rintro ⟨kv, hkv, he⟩
      exact hnot (List.mem_map.mpr ⟨kv, hkv, of_decide_eq_true he⟩)
    refine wpAny_updateDictKeys (hz := hes) ho hd (hQ _ ⟨_, _, ep + 1, Heap.get?_update_self _ ho (Obj.isFreed_of_dict (Obj.data_mapDictKeys hd _)), hc.mapDictKeys _, Obj.data_mapDictKeys hd _, hk.push hkey _, ?_, ?_⟩ (Heap.SameBut.update ..))
    · rw [stored, if_neg hany]
      have := hp.append hkey (knd.hash k) v
      obtain ⟨l⟩ := es
      simpa using this
    · rw [stored, if_neg hany, List.map_append, List.nodup_append]
      refine ⟨hn, by simp, ?_⟩
      intro a ha b hb
      simp only [List.map_cons, List.map_nil, List.mem_singleton] at hb
      subst hb
      exact fun e => hnot (e ▸ ha)
end
section
variable {prog : Program} {w : World} {A : Around} {E : Value → Shared → Prop} {s : Shared}
theorem merge_plain {d a : Addr} {kvs more : List (Key × Value)} {Q : Unit → Shared → Prop} (hda : d ≠ a) (hS : (a == sysModules) = false) (hd : s.heap.DictOf (mixKind prog w) d kvs) (ha : s.heap.DictOf (mixKind prog w) a more) (hsz : kvs.length + more.length ≤ sizeLine)
    (hQ : ∀ h', h'.DictOf (mixKind prog w) d (merged kvs more) → Heap.SameBut d s.heap h' → Q () { s with heap := h' }) : wpAny (model prog w) A (mergeMapping d (.ref a) false) Q E s := by
  obtain ⟨od, esd, epd, hod, hcd, hdd, hkd, hpd, hnd⟩ := id hd
  obtain ⟨oo, eso, epo, hoo, hco, hdo', hko, hpo, hno⟩ := id ha
  have hlen : more.length = eso.size := by
    rw [← hpo.length]
    simp
  have keyNo : ∀ e ∈ eso.toList, ∀ r, e.key ≠ Value.ref r := fun e he r z => by
    obtain ⟨k, hk, _⟩ := hko e (by simpa using he)
    rcases keyIs_shape hk with ⟨i, t, _, e2⟩ | ⟨x, t, _, e2⟩
    · rw [z] at e2
      cases e2
    · rw [z] at e2
      cases e2
  unfold mergeMapping
  refine wpAny_bind (m := isInstance (.ref a) (.type "dict")) (wpAny_isInstance ha.typeIs PySem.F.sub_dict_dict ?_)
  simp only [if_true]
  refine wpAny_bind (m := specialOf (.ref a) "__iter__") (wpAny_specialOf ha.typeIs PySem.F.slot_dict_iter.lookup ?_)
  rw [show ((some (Value.builtin "dict.__iter__")) == some (Value.builtin "dict.__iter__")) = true from by simp]
  simp only [hS, pure_bind, if_false, Bool.false_eq_true]
  have loop : wpAny (model prog w) A (do
      let es0 ← dictEntries a
      let epoch ← dictEpoch a
      forIn (List.range es0.size) PUnit.unit fun i (_ : PUnit) => (do
        let l ← dictEntries a
        match l[i]? with
          | some e => do
            holding [e.key, e.val] (dictPut d e.hash e.key e.val)
            let ep' ← dictEpoch a
            if (ep' != epoch) = true then do
                (unsupported "dict.changed-during-merge" : Sem PUnit)
                pure (ForInStep.yield PUnit.unit)
              else pure (ForInStep.yield PUnit.unit)
          | _ => do
            (unsupported "dict.changed-during-merge" : Sem PUnit)
            pure (ForInStep.yield PUnit.unit) : Sem (ForInStep PUnit))
      pure ()) Q E s := by
    refine wpAny_bind (wpAny_dictEntries hoo hdo' ?_)
    refine wpAny_bind (wpAny_dictEpoch hoo hdo' ?_)
    refine wpAny_bind ?_
    rw [List.range_eq_range']
    refine wpAny_forIn_list _
      (fun rest _ s' => ∃ h' i, s' = { s with heap := h' } ∧ rest = List.range' i (eso.size - i) ∧ i ≤ eso.size ∧ h'.DictOf (mixKind prog w) d (merged kvs (more.take i)) ∧ h'.get? a = some oo ∧ Heap.SameBut d s.heap h')
      _ ?_ ?_ _ _ ⟨s.heap, 0, rfl, by simp, Nat.zero_le _, by simpa [merged] using hd, hoo, Heap.SameBut.refl _ _⟩
    · rintro x rest b s' ⟨h', i, rfl, hr, hi, hd', hoo', hs'⟩
      have hlt : i < eso.size := by
        rcases Nat.lt_or_ge i eso.size with h | h
        · exact h
        · rw [Nat.sub_eq_zero_of_le h] at hr
          simp at hr
      obtain ⟨rfl, hrest⟩ : x = i ∧ rest = List.range' (i + 1) (eso.size - (i + 1)) := by
        have e : eso.size - i = (eso.size - (i + 1)) + 1 := by omega
        rw [e, List.range'_succ] at hr
        injection hr with h1 h2
        exact ⟨h1, h2⟩
      refine wpAny_bind (wpAny_dictEntries hoo' hdo' ?_)
      rw [Array.getElem?_eq_getElem hlt]
      obtain ⟨kv, hkv⟩ : ∃ kv, more[x]? = some kv := ⟨more[x]'(by rw [hlen]; exact hlt), List.getElem?_eq_getElem _⟩
      obtain ⟨k, v⟩ := kv
      obtain ⟨hkey, hval⟩ := hpo.get? (e := eso[x]) (by simp [hlt]) hkv
      obtain ⟨k', hkey', hhash⟩ := hko eso[x] (Array.getElem_mem hlt)
      obtain rfl : k' = k := (mixKind prog w).inj _ _ _ hkey' hkey
      show wpAny _ _ (holding [eso[x].key, eso[x].val] (dictPut d eso[x].hash eso[x].key eso[x].val) >>= _) _ _ _
      rw [hhash, hval]
      have hmx : (merged kvs (more.take x)).length ≤ sizeLine := by
        have e1 := merged_length_le kvs (more.take x)
        have e2 : (more.take x).length ≤ more.length := by
          rw [List.length_take]
          omega
        omega
      refine wpAny_bind (wpAny_holding (put_pairs (hsz := hmx) hkey hd' fun h'' hd'' hs'' => ?_))
      have hoo'' : h''.get? a = some oo := (hs''.2 a (Ne.symm hda)).trans hoo'
      refine wpAny_bind (wpAny_dictEpoch hoo'' hdo' ?_)
      rw [if_neg (by simp)]
      exact wpAny_pure ⟨h'', x + 1, rfl, hrest, hlt, by rw [merged_take_succ kvs more x (k', v) hkv]; exact hd'', hoo'', hs'.trans hs''⟩
    · rintro b s' ⟨h', i, rfl, hr, hi, hd', hoo', hs'⟩
      have hin : i = eso.size := by
        rcases Nat.lt_or_ge i eso.size with h | h
        · have e : eso.size - i = (eso.size - (i + 1)) + 1 := by omega
          rw [e, List.range'_succ] at hr
          exact nomatch hr
        · exact Nat.le_antisymm hi h
      refine wpAny_pure (hQ h' ?_ hs')
      rw [hin, ← hlen, List.take_length] at hd'
      exact hd'
  refine wpAny_bind (wpAny_dictEntries hod hdd ?_)
  split
  · refine wpAny_bind (wpAny_dictEntries hoo hdo' ?_)
    refine wpAny_bind (m := forIn eso PUnit.unit _) ?_
    rw [← Array.forIn_toList]
    refine wpAny_forIn_list _ (fun rest _ s' => s' = s ∧ ∀ e ∈ rest, e ∈ eso.toList) _ ?_ ?_ _ _ ⟨rfl, fun _ h => h⟩
    · rintro e rest b s' ⟨rfl, sub⟩
      have kn := keyNo e (sub e List.mem_cons_self)
      cases ke : e.key with
      | ref r => exact absurd ke (kn r)
      | _ => exact wpAny_pure ⟨rfl, fun x h => sub x (List.mem_cons_of_mem _ h)⟩
    · rintro b s' ⟨rfl, _⟩
      exact loop
  · exact loop
end
theorem disp_two {M : Model} {A : Around} {E : Value → Shared → Prop} {s : Shared} {Q : Value → Shared → Prop} {v1 v2 : Sem Value} {d : Addr} (hd : d = s.heap.objs.size)
    (h : wpAny M A v1 (fun m1 s1 => wpAny M A (mergeMapping d m1 false) (fun _ s2 => wpAny M A v2 (fun m2 s3 => wpAny M A (mergeMapping d m2 false) (fun _ s4 => Q (.ref d) s4) (fun _ _ => False) s3) E s2) (fun _ _ => False) s1) E
      { s with heap := s.heap.push { cls := .type "dict", data := .dict #[] } }) : wpAny M A (dictDisplay [(none, v1), (none, v2)]) Q E s := by
  subst hd
  unfold dictDisplay
  dsimp only
  simp only [List.forIn_cons, List.forIn_nil, List.isEmpty_nil, if_true, pure_bind]
  refine wpAny_bind (wpAny_bind (wpAny_bind (wpAny_alloc (wpAny_bind (wpAny_holding (wpAny_mono h (fun m1 s1 h1 => ?_) (fun _ _ e => e)))))))
  refine wpAny_bind (wpAny_onRaise (wpAny_tryCatch (wpAny_onRaise (wpAny_holding (wpAny_mono h1 (fun _ s2 h2 => ?_) (fun _ _ e => e.elim))))))
  refine wpAny_pure ?_
  dsimp only
  refine wpAny_bind (wpAny_bind ?_)
  simp only [List.isEmpty_nil, if_true]
  refine wpAny_pure ?_
  dsimp only
  refine wpAny_bind (wpAny_holding (wpAny_mono h2 (fun m2 s3 h3 => ?_) (fun _ _ e => e)))
  refine wpAny_bind (wpAny_onRaise (wpAny_tryCatch (wpAny_onRaise (wpAny_holding (wpAny_mono h3 (fun _ s4 h4 => ?_) (fun _ _ e => e.elim))))))
  refine wpAny_pure ?_
  dsimp only
  refine wpAny_pure ?_
  dsimp only
  refine wpAny_bind ?_
  simp only [List.isEmpty_nil, if_true]
  exact wpAny_pure (wpAny_pure h4)
section
variable {X : Cx} {a b : Expr} {ta tb : TE} {pos : Pos}
/-- {**x, **y} -/
def tDm2 (ta tb : TE) : TE := fun σ H Q => ∀ p, H p = none → ta σ (upd H p (.dK [])) fun x H1 => H1 p = some (.dK []) ∧ ∃ (d : Addr) (kvs : List (Key × V)), x = .ref d ∧ d ≠ p ∧ Rd H1 d (.dK kvs) ∧ kvs.length ≤ 1000 ∧
  tb σ (upd H1 p (.dK (mergeK [] kvs))) fun y H2 => H2 p = some (.dK (mergeK [] kvs)) ∧ ∃ (e : Addr) (lvs : List (Key × V)), y = .ref e ∧ e ≠ p ∧ Rd H2 e (.dK lvs) ∧ lvs.length ≤ 1000 ∧ Q (.ref p) (upd H2 p (.dK (mergeK (mergeK [] kvs) lvs)))
theorem merge_run {pins : List (Addr × Obj)} {σ : L2.St} {H : Hp} {s : Shared} {p d : Addr} {kvs more : List (Key × V)} {R : Shared → Prop} {E : Value → Shared → Prop} (I : Inv X pins σ H s) (e : H p = some (.dK kvs)) (hd : Rd H d (.dK more)) (ne : d ≠ p) (l1 : kvs.length ≤ 4000) (l2 : more.length ≤ 4000)
    (h : ∀ s', Inv X pins σ (upd H p (.dK (mergeK kvs more))) s' → R s') : wpAny (model X.prog X.w) X.A (mergeMapping p (.ref d) false) (fun _ s' => R s') E s := by
  obtain ⟨z1, lo1, vs, r1, dd1⟩ := dk_of I.hok e
  obtain ⟨z2, lo2, ws, r2, dd2⟩ := dk_rd I.hok hd
  refine merge_plain (fun z => ne z.symm) lo2 dd1 dd2 (by rw [← r1.length, ← r2.length, sizeLine_eq]; omega) fun h' dd' sb => ?_
  have hz : (mergeK kvs more).length ≤ sizeLine := by
    have := length_mergeK more kvs
    rw [sizeLine_eq]
    omega
  have he : ∃ q, h'.get? p = some q := let ⟨q, _, _, hq, _⟩ := dd'; ⟨q, hq⟩
  exact h _ (d_write (t' := s.toks) I (by rw [e]; exact True.intro) sb he (dk_new hz lo1 (r2.merge r1) dd'))
theorem pe_dm2 (ha : PE X a ta) (hb : PE X b tb) : PE X (.Dict [none, none] [a, b] pos) (tDm2 ta tb) := by
  refine ⟨fun pins s σ H Q I q => ?_⟩
  have hn := I.hok.fresh (Nat.le_refl s.heap.objs.size)
  have I1 := I.laid (a := s.heap.objs.size) (o := .dK []) (h' := s.heap.push { cls := .type "dict", data := .dict #[] }) (t' := s.toks) (fun _ _ q => Heap.get?_push_of_some _ q) (Nat.le_refl _) (dk_empty s.heap I.big)
  rw [arm_eval_Dict]
  refine wpAny_bind (wpAny_standAt ?_)
  show wpAny _ _ (dictDisplay [(none, do let x ← eval a X.env; standAt pos; pure x), (none, do let x ← eval b X.env; standAt pos; pure x)]) _ _ _
  refine disp_two rfl ?_
  refine wpAny_bind (thn (ha.run pins _ σ _ _ I1 (q _ hn)) fun u s2 ⟨x, H2, I2, rx, e2, d, kvs, ex, nd, hd, l2, q2⟩ => ?_)
  subst ex
  obtain rfl : u = Value.ref d := rx
  refine wpAny_bind (wpAny_standAt (wpAny_pure ?_))
  refine merge_run I2 e2 hd nd (by show 0 ≤ 4000; omega) (by omega) fun s3 I3 => ?_
  have lm : (mergeK [] kvs).length ≤ 1000 := by
    have := length_mergeK kvs []
    rw [List.length_nil] at this
    omega
  refine wpAny_bind (thn (hb.run pins _ σ _ _ I3 q2) fun u2 s4 ⟨y, H4, I4, ry, e4, e, lvs, ey, ne, he, l4, q4⟩ => ?_)
  subst ey
  obtain rfl : u2 = Value.ref e := ry
  refine wpAny_bind (wpAny_standAt (wpAny_pure ?_))
  exact merge_run I4 e4 he ne (by omega) (by omega) fun s5 I5 => ⟨.ref s.heap.objs.size, _, I5, rfl, q4⟩
end
end G9

/-! repr of what can be shown, its text told. -/
namespace G9
open PySem PySem.Spec PyProof.Rows L2
/-- what can be shown, and how -/
def ShwT (K : PySem.W.Frag) (H : Hp) (v : V) (y : Str) : Prop :=
  (∃ i : Int, v = .int i ∧ i.natAbs.log2 < 1920 ∧ y = toString i) ∨ (∃ z : Str, v = .str z ∧ (reprText z).length + 1000 ≤ sizeLine ∧ y = reprText z) ∨ (v = .non ∧ y = "None") ∨ (∃ b, v = .bl b ∧ y = (if b then "True" else "False")) ∨
    (∃ (p : Addr) (d : PyData), v = .ref p ∧ Dp K H (.ref p) d ∧ d.showable = true ∧ d.hasDict = false ∧ d.depth ≤ 60 ∧ d.shown.length + 1000 ≤ sizeLine ∧ y = d.shown) ∨
    ∃ (p : Addr) (kvs : List (Key × V)) (ds : List (PyData × PyData)), v = .ref p ∧ H p = some (.dK kvs) ∧ FlatD kvs ds ∧ (PyData.dict ds).showable = true ∧ (PyData.dict ds).depth ≤ 60 ∧ (PyData.dict ds).shown.length + 1000 ≤ sizeLine ∧ y = (PyData.dict ds).shown
theorem ShwT.shw {K : PySem.W.Frag} {H : Hp} {v : V} {y : Str} (h : ShwT K H v y) : Shw K H v := by
  rcases h with ⟨i, e, h, _⟩ | ⟨z, e, h, _⟩ | ⟨e, _⟩ | ⟨b, e, _⟩ | ⟨p, d, e, a, b, c, d', f, _⟩ | ⟨p, kvs, ds, e, a, b, c, d', f, _⟩
  · exact Or.inl ⟨i, e, h⟩
  · exact Or.inr (Or.inl ⟨z, e, h⟩)
  · exact Or.inr (Or.inr (Or.inl e))
  · exact Or.inr (Or.inr (Or.inr (Or.inl ⟨b, e⟩)))
  · exact Or.inr (Or.inr (Or.inr (Or.inr (Or.inl ⟨p, d, e, a, b, c, d', f⟩))))
  · exact Or.inr (Or.inr (Or.inr (Or.inr (Or.inr ⟨p, kvs, ds, e, a, b, c, d', f⟩))))
theorem ShwT.same {K : PySem.W.Frag} {H G : Hp} {v : V} {y : Str} (s : Same H G) (h : ShwT K H v y) : ShwT K G v y := by
  rcases h with h | h | h | h | ⟨p, d, e, hd, r⟩ | ⟨p, kvs, ds, e, hd, r⟩
  · exact Or.inl h
  · exact Or.inr (Or.inl h)
  · exact Or.inr (Or.inr (Or.inl h))
  · exact Or.inr (Or.inr (Or.inr (Or.inl h)))
  · exact Or.inr (Or.inr (Or.inr (Or.inr (Or.inl ⟨p, d, e, dp_same s hd, r⟩))))
  · exact Or.inr (Or.inr (Or.inr (Or.inr (Or.inr ⟨p, kvs, ds, e, s _ _ hd, r⟩))))
theorem ShwT.len {K : PySem.W.Frag} {H : Hp} {v : V} {y : Str} (h : ShwT K H v y) : y.length + 1000 ≤ sizeLine := by
  rcases h with ⟨i, e, h, rfl⟩ | ⟨z, e, h, rfl⟩ | ⟨e, rfl⟩ | ⟨b, e, rfl⟩ | ⟨p, d, e, a, b, c, d', f, rfl⟩ | ⟨p, kvs, ds, e, a, b, c, d', f, rfl⟩
  · exact int_text_small h
  · exact h
  · rw [sizeLine_eq]
    decide +kernel
  · rw [sizeLine_eq]
    cases b <;> decide +kernel
  · exact f
  · exact f
section
variable {X : Cx}
def rReprT (K : PySem.W.Frag) : List V → Hp → VK → Prop := fun xs H Q => ∃ x y, xs = [x] ∧ ShwT K H x y ∧ Q (.str y) H
theorem call_reprT {k : Nat} (room : RoomW k X.A) : CallR X (.builtin "repr") (rReprT X.K) := by
  intro pins s σ H xs us Q I r h
  obtain ⟨x, y, rfl, sh, q⟩ := h
  obtain ⟨u, rfl, r1⟩ := vals1 r
  have un := room.un
  have ln := sh.len
  rcases sh with ⟨i, rfl, h, rfl⟩ | ⟨z, rfl, h, rfl⟩ | ⟨rfl, rfl⟩ | ⟨b, rfl, rfl⟩ | ⟨p, d, rfl, hd, a1, a2, a3, a4, rfl⟩ | ⟨p, kvs, ds, rfl, e1, f1, a1, a3, a4, rfl⟩
  · obtain ⟨t, rfl⟩ := r1
    exact PySem.P.repr_of_int h ⟨.str _, H, I.tok _, ⟨_, rfl⟩, q⟩
  · obtain ⟨t, rfl⟩ := r1
    exact PySem.P.repr_of_str ⟨.str _, H, I.tok _, ⟨_, rfl⟩, q⟩ (by omega)
  · obtain rfl : u = Value.none := r1
    exact PySem.P.repr_of_none ⟨.str _, H, I.tok _, ⟨_, rfl⟩, q⟩
  · obtain rfl : u = Value.bool b := r1
    cases b <;> exact PySem.P.repr_of_bool ⟨.str _, H, I.tok _, ⟨_, rfl⟩, q⟩
  · obtain ⟨as, rd⟩ := Dp.reads I d _ _ hd r1
    obtain rfl : u = Value.ref p := r1
    exact repr_of_reads' rd a1 (fun z => by rw [a2] at z; cases z) room.g (by omega) (fun _ _ z => z) (fun h' t tk k => ⟨.str _, H, I.kept k, ⟨t, rfl⟩, q⟩) (by omega)
  · obtain ⟨as, rd, no⟩ := dict_reads I e1 f1
    obtain rfl : u = Value.ref p := r1
    exact repr_of_reads' rd a1 (fun _ => no) room.g (by omega) (fun _ _ z => z) (fun h' t tk k => ⟨.str _, H, I.kept k, ⟨t, rfl⟩, q⟩) (by omega)
theorem l_reprT {K : PySem.W.Frag} {H : Hp} {x : V} {y : Str} {Q : VK} (sh : ShwT K H x y) (q : Q (.str y) H) : rReprT K [x] H Q := ⟨x, y, rfl, sh, q⟩
end
end G9

/-! Loops over lists; slices of lists; a dict's item set. -/
namespace G9
open PySem PySem.Spec PyProof.Rows L2
section
variable {K : PySem.W.Frag} {σ : L2.St} {H : Hp} {tl te : TE} {tar : TA} {tbd : TS} {g : TG} {D : Ends} {Q : VK} {x v : V}
def LFor (K : PySem.W.Frag) (g : TG) (tb : TS) (D : Ends) (σ : L2.St) (x : V) (H1 : Hp) : Prop := ∃ a, x = .ref a ∧ (∃ xs, SqL K H1 a xs) ∧ WFor (Itl K a) g tb D σ H1
theorem s_forL (q : tl σ H fun x H1 => LFor K g tbd D σ x H1) : tFor (iList K tl) g tbd D σ H := q
theorem l_forL {p : Addr} {xs : List V} (h : SqL K H p xs) (Pv : Nat → L2.St → Hp → Prop) (a : Pv 0 σ H) (stay : ∀ i σ H, i ≤ xs.length → Pv i σ H → SqL K H p xs)
    (turn : ∀ (i : Nat) x σ H, xs[i]? = some x → Pv i σ H → g x σ H fun σ2 H2 => tbd { D with nx := Pv (i + 1), ct := Pv (i + 1), bk := D.nx } σ2 H2) (done : ∀ σ H, Pv xs.length σ H → D.nx σ H) : LFor K g tbd D σ (.ref p) H :=
  ⟨p, rfl, ⟨xs, h⟩, for_list Pv a stay turn done⟩
theorem l_slL {p : Addr} {xs : List V} {lo hi : Option Int} (h : SqL K H p xs) (q : ∀ l G, H l = none → Same H G → G l = some (.lst (cutV xs lo hi)) → Q (.ref l) G) : rSlL K (.ref p) lo hi H Q := ⟨p, xs, rfl, h, fun l n => q l _ n (same0 n) upd_same⟩
theorem cut_to {xs : List V} {i : Int} (h0 : 0 ≤ i) (h1 : i ≤ (xs.length : Int)) : cutV xs none (some i) = xs.take i.toNat := by
  have e1 : HT.sIx xs.length 0 none = 0 := rfl
  have e2 : HT.sIx xs.length xs.length (some i) = i.toNat := by
    obtain ⟨k, rfl⟩ := Int.eq_ofNat_of_zero_le h0
    rw [HT.sIx_nat]
    simp only [Int.toNat_natCast]
    omega
  unfold cutV
  rw [e1, e2, List.drop_zero]
  rfl
end
end G9

/-! Lambdas handed to a def, in surroundings without a repr under way. -/
namespace G9
open PySem PySem.Spec PyProof.Rows L2 LamX
section
variable {X : Cx} {pins : List (Addr × Obj)} {σ : L2.St} {H : Hp} {s : Shared}
/-- the call of what was handed on -/
theorem act_G {CXg : CXT} {Eg : XK} {Ng : List Str} {qg : Str} {sg : Scope} {g f c' : Addr} {cdg pm ctv : Value} {params : Arguments} {body : Expr} {scope : Scope} {k i : Nat} {a : Str} {pn : List (Addr × Obj)} {xe : Value → Shared → Prop} {W : WX} {E : XK} {tb : TE} {p1 p2 : Pos}
    (I : Inv X pins σ H s) (L : LamS X.env.scope scope) (at_ : s.heap.get? f = some (PySem.W.kla_obj "<lambda>" (X.env.qual ++ "<lambda>") params body scope (cloFrom X.env.cells scope.names []) pm c' ctv)) (nf : H f = none) (nfr : f ∉ frs X.stack)
    (bound : bindArgs (PySem.W.kla_fn "<lambda>" (X.env.qual ++ "<lambda>") params body scope (cloFrom X.env.cells scope.names []) pm (.ref c') ctv) ⟨[], []⟩ = pure [])
    (tk : Takes ((cxOf CXg X.prog X.w X.K X.mg X.base Ng qg sg g cdg X.A X.stack s H Eg).tr pn xe) W) (sub : ∀ cls d (τ : L2.St) G, τ.length = Ng.length → E cls d G → W cls d τ G) (room : RoomG (k + 1) (X.A.deeper (envOfC qg sg s.heap.objs.size g cdg)))
    (inner : ∀ (A : Around) (outer : List Env) (z : Shared) (G : Hp), RoomG k (A.deeper (lamEnv X scope z.heap.objs.size f c')) → PE (lamCx X A outer z G E scope f c') body tb)
    (hN : Ng[i]? = some a) (vis : Vis sg a) (d1 : (a == ("__debug__" : Str)) = false := by decide) (d2 : (a == ("__classdict__" : Str)) = false := by decide) :
    PE ((cxOf CXg X.prog X.w X.K X.mg X.base Ng qg sg g cdg X.A X.stack s H Eg).tr pn xe) (.Call (.Name a p1) [] [] p2)
      (fun τ G Q => τ[i]? = some (some (.ref f)) ∧ G c' = some (CodeO c' (X.env.qual ++ "<lambda>")) ∧ tb σ G Q) := by
  constructor
  intro pinsZ sZ τ G Q IZ want
  obtain ⟨here, co, w1⟩ := want
  refine wpAny_Call_Name_kw (thn ((pe_var (pos := p1) (i := i) hN vis d1 d2).run pinsZ sZ τ G (fun v G1 => v = .ref f ∧ G1 = G) IZ ⟨.ref f, here, rfl, rfl⟩) fun u s1 ⟨v, G1, J, rv, e1, e2⟩ => ?_)
  subst e1
  rw [e2] at J
  obtain rfl : u = Value.ref f := rv
  have now := J.base.keep f _ at_ nf nfr (fun z => nomatch (show f ∈ ([] : List Addr) from z))
  refine PySem.W.callWith_F0 ⟨_, _, _, _, now⟩ ?_
  have un : Un (frs X.stack) [] H G s.heap s1.heap := J.base
  obtain ⟨⟨oc, vs, t, hoc, hdc, hvc⟩, _, _⟩ := J.hok c' _ co
  have ran : codeAny (model X.prog X.w) (X.A.deeper (envOfC qg sg s.heap.objs.size g cdg)) (.call (.ref f) ⟨[], []⟩) (CR (L2.CX X.prog X.w) (envOfC qg sg s.heap.objs.size g cdg :: X.stack) X.prog X.w G s1 Q E) s1 := by
    refine PySem.W.kla_callFunE room.r.depth now rfl L.co L.gen rfl ⟨c', oc, vs, t, rfl, hoc, hdc, hvc⟩ ?_
    rw [bound]
    refine wpAny_pure (wpAny_newFunctionEnv (fun y hy => (L.own y hy).2) (fun y hy => absurd hy (by simp)) (fun h1 hns hsb => ⟨J.nolimit.fresh _ hsb, ?_⟩) L.kind)
    show codeAny _ _ (.expr body (lamEnv X scope s1.heap.objs.size f c')) _ _
    have keep : ∀ b o, s1.heap.get? b = some o → h1.get? b = some o := fun b o e => hsb.extBut b o (Nat.ne_of_lt (Heap.lt_size e)) (Heap.get?_push_of_some _ e)
    have J2 : Inv (lamCx X (X.A.deeper (envOfC qg sg s.heap.objs.size g cdg)) (envOfC qg sg s.heap.objs.size g cdg :: X.stack) s1 G E scope f c') [] σ G { s1 with heap := h1, toks := s1.toks + ([] : List (Str × Value)).length } :=
      lam_start2 I L J.env0 room.r.hd un hns keep
    refine PySem.W.kla_codeExpr (wpAny_mono ((inner _ _ s1 G ⟨room.r.deeper _, room.g⟩).run [] _ _ G Q J2 w1) (fun v s' hq => ?_) fun _ _ hq => hq)
    obtain ⟨w', G', J', rv, q⟩ := hq
    exact ⟨w', G', J'.os, J'.bare, J'.base, J'.hok, rv, q⟩
  have hx : Passes (L2.CX X.prog X.w) ((cxOf CXg X.prog X.w X.K X.mg X.base Ng qg sg g cdg X.A X.stack s H Eg).tr pn xe) E := fun _ τ _ _ e s' I c => tk e s' (XE.of_call I (fun cls d G' h => sub cls d τ G' I.len h) c)
  refine wpAny_call (codeAny_mono ran fun res s' hq => ?_)
  match res, hq with
  | .error e, hq => exact hx pinsZ τ G s1 e s' J hq
  | .ok (.ret u), hq => exact J.after hq
end
/-- a def called, its promise told of the very state -/
theorem run_G {CX : CXT} {P : Program} {w : World} {K : PySem.W.Frag} {mg : Str → Option Value} {base : Heap} {k : Nat} {f : Addr} {name qual : Str} {params : Arguments} {body : List Stmt} {scope : Scope} {dV kV doc pm cdv ct oc : Value} {an od : Option Addr}
    {osl : Array (Option Value)} {N ps : List Str} (lk : K.lookup f = some ⟨oc, od, .func (PySem.W.fnOf name qual params body scope dV kV doc pm an cdv ct), osl⟩) (cd : PySem.W.codeIn K cdv qual = true) (S : FnScope N ps scope)
    {A : Around} {outer : List Env} {s : Shared} {H : Hp} {args : Args} {us : List Value} {vs : List V} {Q : VK} {E : XK} (room : RoomG (k + 1) A) (env : Env0 P w K mg base A outer s H) (bind : BindsTo s (PySem.W.fnOf name qual params body scope dV kV doc pm an cdv ct) args (ps.zip us)) (rel : Vals vs us) (same : vs.length = ps.length)
    (inner : RoomG k (A.deeper (envOfC qual scope s.heap.objs.size f cdv)) → ∃ t, PSs (cxOf CX P w K mg base N qual scope f cdv A outer s H E) body t ∧ t { nx := fun _ G => Q .non G, rt := Q } (L2.start N vs) H) :
    codeAny (model P w) A (.call (.ref f) args) (CR CX outer P w H s Q E) s := by
  have inS : K.In s.heap := env.mod.kin.keeps fun b o z => (env.bs b o z).1
  have noLim : s.heap.NoLimit := env.mod.nolimit.keeps fun b o z => (env.bs b o z).1
  have kinds : ∀ y ∈ ps.zip us, scope.names.lookup y.1 = some .local ∨ (scope.names.lookup y.1 = some .cell ∧ ((cellsFrom (s.heap.objs.size + 1) scope.names []).lookup y.1).isSome = true) := by
    rintro ⟨n, v⟩ hy
    rcases S.par n (List.of_mem_zip hy).1 with z | z
    · exact Or.inl z
    · exact Or.inr ⟨z, PySem.W.cellsFrom_some _ _ _ (.inl z)⟩
  refine codeAny_call_function room.r.depth (inS _ _ lk) rfl S.co S.gen rfl (PySem.W.codeRec_of inS cd) (bind _ _ _ _ ?_)
  refine wpAny_newFunctionEnv_cells S.kind kinds fun en ee s1 x => ?_
  subst ee
  refine ⟨noLim.keeps x.toInCall.keep, codeAny_func ?_⟩
  obtain ⟨t, ht, hq⟩ := inner ⟨room.r.deeper _, room.g⟩
  have J := inv_start (CX := CX) (E := E) S room.r.hd env same rel x
  have done : ∀ {τ : L2.St} {G : Hp} {v : V} {u : Value} {z : Shared}, Inv (cxOf CX P w K mg base N qual scope f cdv A outer s H E) [] τ G z → RelV v u → Q v G → CE outer P w H s Q u z :=
    fun {_ G v _ _} I r q => ⟨v, G, I.os, I.bare, I.base, I.hok, r, q⟩
  refine wpAny_mono (ht.run [] s1 (L2.start N vs) H _ J hq) ?_ fun _ _ z => z
  intro fl z hz
  cases fl with
  | next =>
    obtain ⟨_, _, I, q⟩ := hz
    exact done (v := V.non) (u := Value.none) I rfl q
  | ret u =>
    obtain ⟨_, _, _, I, r, q⟩ := hz
    exact done I r q
  | brk => exact hz.elim fun _ h => h.elim fun _ h => h.2.elim
  | cont => exact hz.elim fun _ h => h.elim fun _ h => h.2.elim
/-- what a def that calls what it got makes of it -/
def GivesG (X : Cx) (Ng : List Str) (x : Str) (sg : Scope) (g : Addr) (cdg : Value) (bg : List Stmt) (a : Str) (q : Str) (k : Nat) (TT : (XK → Hp → VK → Prop) → Hp → VK → Prop) : Prop :=
  ∀ (f c' : Addr) (s : Shared) (H : Hp) (Q : VK) (tl : XK → Hp → VK → Prop), RoomG k (X.A.deeper (envOfC x sg s.heap.objs.size g cdg)) →
    (∀ (W : WX) (pn : List (Addr × Obj)) (xe : Value → Shared → Prop) (E : XK) (p1 p2 : Pos), Takes ((cxOf CX0 X.prog X.w X.K X.mg X.base Ng x sg g cdg X.A X.stack s H (fun _ _ _ => False)).tr pn xe) W → (∀ cls d (τ : L2.St) G, τ.length = Ng.length → E cls d G → W cls d τ G) →
      PE ((cxOf CX0 X.prog X.w X.K X.mg X.base Ng x sg g cdg X.A X.stack s H (fun _ _ _ => False)).tr pn xe) (.Call (.Name a p1) [] [] p2) (fun τ G Q => τ[0]? = some (some (.ref f)) ∧ G c' = some (CodeO c' q) ∧ tl E G Q)) →
    H c' = some (CodeO c' q) → TT tl H Q →
    ∃ t, PSs (cxOf CX0 X.prog X.w X.K X.mg X.base Ng x sg g cdg X.A X.stack s H (fun _ _ _ => False)).nox bg t ∧ t { nx := fun _ G => Q .non G, rt := Q } (L2.start Ng [.ref f]) H
section
variable {X : Cx}
/-- x(lambda: body), x any def of the globals -/
theorem pe_lamG {T : List (Addr × Str)} {TT : (XK → Hp → VK → Prop) → Hp → VK → Prop} {x a : Str} {g c P : Addr} {k : Nat} {pg : Arguments} {bg : List Stmt} {sg : Scope} {dV kV doc pm cdv ct oc : Value} {an od : Option Addr} {osl : Array (Option Value)} {Ng : List Str}
    {params : Arguments} {body : Expr} {scope : Scope} {t : XK → TE} {p lpos pos : Pos} (hg : Gl X x) (hm : X.mg x = some (.ref g)) (hk : PySem.W.keepIn X.K (.ref g) = true)
    (lk : X.K.lookup g = some ⟨oc, od, .func (PySem.W.fnOf x x pg bg sg dV kV doc pm an cdv ct), osl⟩) (cg : PySem.W.codeIn X.K cdv x = true) (hb : L2.Binds X.K (PySem.W.fnOf x x pg bg sg dV kV doc pm an cdv ct) [a] []) (Sg : FnScope Ng [a] sg) (hNg : Ng[0]? = some a) (vis : Vis sg a)
    (gives : GivesG X Ng x sg g cdv bg a (X.env.qual ++ "<lambda>") (k + 1) TT)
    (TB : TabB X.base X.mg c P) (hcode : X.env.code = .ref c) (hmT : (P, X.env.qual ++ "<lambda>") ∈ T) (hu : ∀ p ∈ T, p.1 = P → p.2 = X.env.qual ++ "<lambda>") (room : RoomG (k + 2) X.A) (L : LamS X.env.scope scope) (hdef : defaultsOf params X.env = ([], []))
    (bound : ∀ (q : Str) (cl : List (Str × Addr)) (pm cv ctv : Value), bindArgs (PySem.W.kla_fn "<lambda>" q params body scope cl pm cv ctv) ⟨[], []⟩ = pure [])
    (inner : ∀ (A : Around) (outer : List Env) (s : Shared) (H : Hp) (E : XK) (f c' : Addr), RoomG k (A.deeper (lamEnv X scope s.heap.objs.size f c')) → PE (lamCx X A outer s H E scope f c') body (t E))
    (d0 : (x == ("__debug__" : Str)) = false := by decide) (d1 : (a == ("__debug__" : Str)) = false := by decide) (d2 : (a == ("__classdict__" : Str)) = false := by decide) :
    PE X (.Call (.Name x p) [.Lambda params body scope lpos] [] pos) (tLam T TT t) := by
  constructor
  intro pins s σ H Q I want
  obtain ⟨hT, want⟩ := want
  refine wpAny_Call_Name_kw (ld_glob I hg hm ?_ d0)
  refine PySem.W.callWith_K (h₀ := X.base) I.ok.mod.kin hk ?_ (by rfl) (by rfl)
  show wpAny _ _ (spliced ((false, eval (.Lambda params body scope lpos) X.env) :: backTo pos (starEach [] X.env))) _ _ s
  refine Calls.spliced_cons (lam_make2 I TB hcode hmT hu hT hdef (L.has I.ok) fun f c' pm' ctv H1 s1 J eN T1 hf hfn hfr hco => Calls.spliced_nil ⟨J.kIn, ?_⟩)
  have ran : codeAny (model X.prog X.w) X.A (.call (.ref g) ⟨[.ref f], []⟩) (CR CX0 X.stack X.prog X.w H1 s1 Q (fun _ _ _ => False)) s1 := by
    refine run_G (N := Ng) (ps := [a]) (us := [.ref f]) (vs := [.ref f]) lk cg Sg room J.env0 (hb s1 [.ref f] J.kIn rfl) (.cons rfl .nil) rfl fun r1 => ?_
    obtain ⟨t1, ht1, hq1⟩ := gives f c' s1 H1 Q (fun E G Q' => t E σ G Q') r1 (fun W pn xe E p1 p2 tk sub => act_G (i := 0) J L hf hfn hfr (bound _ _ _ _ _) tk sub r1 (fun A outer z G r2 => inner A outer z G E f c' r2) hNg vis d1 d2) hco (want H1 eN T1)
    exact ⟨t1, ht1.nox, hq1⟩
  refine wpAny_call (codeAny_mono ran fun res s2 hq => ?_)
  match res, hq with
  | .error e, hq => exact (show False from hq).elim
  | .ok (.ret u), hq => exact J.after hq
end
/-- a def that makes lambdas: its code object is known -/
theorem okGL {P : Program} {w : World} {K : PySem.W.Frag} {mg : Str → Option Value} {base : Heap} {k : Nat} {f co : Addr} {fd : FuncData} {ps N : List Str} {sp : Sp} {x qual : Str} {st : Stmt} (F : Fun K x qual st f fd)
    (hl : ∃ kV doc pm an ct, fd = PySem.W.fnOf x qual (defArgs st) (defBody st) (defScope st) .none kV doc pm an (.ref co) ct) (S : FnScope N ps (defScope st)) (count : ∀ vs H Q E, sp vs H Q E → vs.length = ps.length)
    (hb : ∀ (A : Around) (fs : List Env) (s : Shared) (H : Hp) (vs : List V) (Q : VK) (E : XK), RoomG k (A.deeper (envOfC qual (defScope st) s.heap.objs.size f (.ref co))) → sp vs H Q E →
      ∃ t, PSs (cxOf CX0 P w K mg base N qual (defScope st) f (.ref co) A fs s H E).nox (defBody st) t ∧ t { nx := fun _ G => Q .non G, rt := Q } (L2.start N vs) H) : FnG P w K mg base CX0 (k + 1) f fd ps sp := by
  obtain ⟨oc, od, kV, doc, pm, an, cdv, ct, osl, rfl, lk, cd⟩ := F.ex
  obtain ⟨kV', doc', pm', an', ct', e⟩ := hl
  have ec : cdv = .ref co := by
    unfold PySem.W.fnOf at e
    injection e
  subst ec
  refine by_body lk cd S count fun A fs s H vs Q E room want => ?_
  obtain ⟨t, h, q⟩ := hb A fs s H vs Q E room want
  exact ⟨t, h.nox, q⟩
section
variable {X : Cx}
theorem pe_lamF {T : List (Addr × Str)} {TT : (XK → Hp → VK → Prop) → Hp → VK → Prop} {x a : Str} {st : Stmt} {g c P : Addr} {fd : FuncData} {k : Nat} {Ng : List Str} {params : Arguments} {body : Expr} {scope : Scope} {t : XK → TE} {p lpos pos : Pos} (hg : Gl X x) (hm : X.mg x = some (.ref g)) (Fd : Fun X.K x x st g fd)
    (hb : L2.Binds X.K fd [a] []) (Sg : FnScope Ng [a] (defScope st)) (hNg : Ng[0]? = some a) (vis : Vis (defScope st) a) (gives : ∀ cdv, GivesG X Ng x (defScope st) g cdv (defBody st) a (X.env.qual ++ "<lambda>") (k + 1) TT)
    (TB : TabB X.base X.mg c P) (hcode : X.env.code = .ref c) (hmT : (P, X.env.qual ++ "<lambda>") ∈ T) (hu : ∀ p ∈ T, p.1 = P → p.2 = X.env.qual ++ "<lambda>") (room : RoomG (k + 2) X.A) (L : LamS X.env.scope scope) (hdef : defaultsOf params X.env = ([], []))
    (bound : ∀ (q : Str) (cl : List (Str × Addr)) (pm cv ctv : Value), bindArgs (PySem.W.kla_fn "<lambda>" q params body scope cl pm cv ctv) ⟨[], []⟩ = pure [])
    (inner : ∀ (A : Around) (outer : List Env) (s : Shared) (H : Hp) (E : XK) (f c' : Addr), RoomG k (A.deeper (lamEnv X scope s.heap.objs.size f c')) → PE (lamCx X A outer s H E scope f c') body (t E))
    (d0 : (x == ("__debug__" : Str)) = false := by decide) (d1 : (a == ("__debug__" : Str)) = false := by decide) (d2 : (a == ("__classdict__" : Str)) = false := by decide) :
    PE X (.Call (.Name x p) [.Lambda params body scope lpos] [] pos) (tLam T TT t) := by
  obtain ⟨oc, od, kV, doc, pm, an, cdv, ct, osl, rfl, lk, cd⟩ := Fd.ex
  exact pe_lamG hg hm Fd.kp lk cd hb Sg hNg vis (gives cdv) TB hcode hmT hu room L hdef bound inner d0 d1 d2
theorem lam_takes {X : Cx} {A : Around} {outer : List Env} {s : Shared} {H : Hp} {E : XK} {scope : Scope} {f c' : Addr} : Takes (lamCx X A outer s H E scope f c') (fun cls d _ G => E cls d G) := takes_of rfl rfl rfl rfl
end
end G9

/-! The law's end where defs make lambdas: their code objects' tables are tracked from the beginning. -/
namespace G9
open PySem PySem.Spec PyProof.Rows L2 LamX
/-- a code object and its table, as the law's start leaves them -/
structure TabZ (K : PySem.W.Frag) (h : Heap) (c P : Addr) : Prop where
  empty : h.get? P = some { cls := .none, data := .fields #[] }
  out : K.lookup P = none
  head : PySem.W.CodeHd h c P
theorem law_endT {P : Program} {w : World} {K : PySem.W.Frag} {mg mb : Str → Option Value} {CX : CXT} {k : Nat} {fa a : Addr} {cs : List (Addr × Addr)} {fd : FuncData} {x : Str} {sp : Sp} {z : Shared} {vs : List Value} {ns : List Int}
    (inK : K.In z.heap) (glo : z.heap.Ns mainGlobals mg) (blt : z.heap.Ns builtinsNs mb) (boot : ∀ y : Str, y ≠ "__name__" → mb y = bootBuiltins y) (lim : z.heap.NoLimit) (bare : z.gens = #[]) (tz : ∀ p ∈ cs, TabZ K z.heap p.1 p.2)
    (bmod : ∃ (m : Addr) (o : Obj), mg "__builtins__" = some (.ref m) ∧ m ≠ builtinsNs ∧ z.heap.get? m = some o ∧ o.cls = .type "module" ∧ o.dict = some builtinsNs ∧ o.data = .plain)
    (ha : z.heap.get? a = some { cls := .type "list", data := .seq vs.toArray }) (nums : IntsAre vs ns) (small : ns.length ≤ sizeLine) (room : Room k callerA)
    (F : ∀ base : Heap, K.In base → base.Ns mainGlobals mg → (∀ p ∈ cs, TabB base mg p.1 p.2) → FnG P w K mg base CX k fa fd [x] sp) (bind : ∀ (s : Shared) (u : Value), BindsTo s fd ⟨[u], []⟩ [(x, u)])
    (want : ∀ H : Hp, (∀ p ∈ cs, H p.2 = some (.tbl #[])) → SqL K H a (ns.map V.int) → sp [.ref a] H (fun v _ => v = .bl true) fun _ _ _ => False)
    (none_out : ∀ H e s', CX [] H z (fun _ _ _ => False) e s' → False) :
    codeAny (model P w) callerA (.call (.ref fa) ⟨[.ref a], []⟩) (fun r s' => r = .ok (.ret (.bool true)) ∧ OldK z.heap s'.heap ∧ s'.os = z.os ∧ AllBare s'.gens) z := by
  have rel := vals_ints nums
  have aT : ∀ p ∈ cs, p.2 ≠ a := fun p hp e => by
    have h1 := (tz p hp).empty
    rw [e, ha] at h1
    have h2 : Data.seq vs.toArray _ = Data.fields #[] := congrArg Obj.data (Option.some.inj h1)
    cases h2
  -- an abstract heap that tracks the tables, and the script at most
  suffices core : ∀ H : Hp, (∀ b u, H b = some u → (b = a ∧ K.lookup a = none ∧ ∃ o xs, u = .frz o (.lst xs)) ∨ ∃ p ∈ cs, b = p.2 ∧ u = .tbl #[]) → (∀ p ∈ cs, H p.2 = some (.tbl #[])) → SqL K H a (ns.map V.int) → HOk P w H z.heap →
      codeAny (model P w) callerA (.call (.ref fa) ⟨[.ref a], []⟩) (fun r s' => r = .ok (.ret (.bool true)) ∧ OldK z.heap s'.heap ∧ s'.os = z.os ∧ AllBare s'.gens) z by
    have look : ∀ (o : Option HO) (b : Addr), (if ∃ p ∈ cs, p.2 = b then some (HO.tbl #[]) else if b = a then o else none) = some (HO.tbl #[]) ∨ (if ∃ p ∈ cs, p.2 = b then some (HO.tbl #[]) else if b = a then o else none) = if b = a then o else none := fun o b => by
      by_cases h : ∃ p ∈ cs, p.2 = b
      · exact Or.inl (if_pos h)
      · exact Or.inr (if_neg h)
    have tabs : ∀ (o : Option HO) (p : Addr × Addr), p ∈ cs → (if ∃ q ∈ cs, q.2 = p.2 then some (HO.tbl #[]) else if p.2 = a then o else none) = some (HO.tbl #[]) := fun o p hp => if_pos ⟨p, hp, rfl⟩
    have ata : ∀ o : Option HO, (if ∃ p ∈ cs, p.2 = a then some (HO.tbl #[]) else if a = a then o else none) = o := fun o => by
      rw [if_neg (fun ⟨p, hp, e⟩ => aT p hp e), if_pos rfl]
    cases there : K.lookup a with
    | some o =>
      have same := inK a o there
      rw [ha] at same
      cases same
      have only : ∀ b u, (if ∃ p ∈ cs, p.2 = b then some (HO.tbl #[]) else if b = a then (none : Option HO) else none) = some u → ∃ p ∈ cs, b = p.2 ∧ u = .tbl #[] := fun b u q => by
        by_cases h : ∃ p ∈ cs, p.2 = b
        · rw [if_pos h] at q
          obtain ⟨p, hp, e⟩ := h
          exact ⟨p, hp, e.symm, (Option.some.inj q).symm⟩
        · rw [if_neg h] at q
          by_cases hb : b = a
          · rw [if_pos hb] at q
            cases q
          · rw [if_neg hb] at q
            cases q
      refine core (fun b => if ∃ p ∈ cs, p.2 = b then some (.tbl #[]) else if b = a then none else none) (fun b u q => Or.inr (only b u q)) (tabs none) (Or.inr ⟨_, vs.toArray, _, there, rfl, rfl, rfl, ?_, by simpa using rel⟩) fun b u q => ?_
      · have := nums.length
        simp only [List.size_toArray]
        omega
      · obtain ⟨p, hp, rfl, rfl⟩ := only b u q
        exact (tz p hp).empty
    | none =>
      have only : ∀ b u, (if ∃ p ∈ cs, p.2 = b then some (HO.tbl #[]) else if b = a then some (HO.frz { cls := .type "list", data := .seq vs.toArray } (.lst (ns.map V.int))) else none) = some u →
          (b = a ∧ u = HO.frz { cls := .type "list", data := .seq vs.toArray } (.lst (ns.map V.int))) ∨ ∃ p ∈ cs, b = p.2 ∧ u = .tbl #[] := fun b u q => by
        by_cases h : ∃ p ∈ cs, p.2 = b
        · rw [if_pos h] at q
          obtain ⟨p, hp, e⟩ := h
          exact Or.inr ⟨p, hp, e.symm, (Option.some.inj q).symm⟩
        · rw [if_neg h] at q
          by_cases hb : b = a
          · rw [if_pos hb] at q
            exact Or.inl ⟨hb, (Option.some.inj q).symm⟩
          · rw [if_neg hb] at q
            cases q
      refine core (fun b => if ∃ p ∈ cs, p.2 = b then some (.tbl #[]) else if b = a then some (.frz { cls := .type "list", data := .seq vs.toArray } (.lst (ns.map V.int))) else none) (fun b u q => ?_) (tabs _) (Or.inl (Or.inr ⟨_, ata _⟩)) fun b u q => ?_
      · rcases only b u q with ⟨e1, e2⟩ | h
        · exact Or.inl ⟨e1, there, _, _, e2⟩
        · exact Or.inr h
      · rcases only b u q with ⟨e1, e2⟩ | ⟨p, hp, rfl, rfl⟩
        · subst e1
          subst e2
          exact ⟨ha, by rw [List.length_map]; exact small, vs, _, rel, ha⟩
        · exact (tz p hp).empty
  intro H tracked isT script ok
  -- what is neither the script nor a table is not tracked
  have plainO : ∀ {b : Addr} {o : Obj}, z.heap.get? b = some o → (∀ us n, o.data ≠ .seq us n) → o.data ≠ .fields #[] → H b = none := by
    intro b o e n1 n2
    cases q : H b with
    | none => rfl
    | some u =>
      rcases tracked b u q with ⟨rfl, _, _⟩ | ⟨p, hp, rfl, _⟩
      · rw [ha] at e
        cases e
        exact absurd rfl (n1 _ _)
      · rw [(tz p hp).empty] at e
        cases e
        exact absurd rfl n2
  have kept : ∀ {b : Addr} {o : Obj}, z.heap.get? b = some o → H b = none → (hidT z.heap H).get? b = some o := fun e n => hidT_get e n
  have nsOf : ∀ {b : Addr} {m : Str → Option Value}, z.heap.Ns b m → (hidT z.heap H).Ns b m := by
    rintro b m ⟨o, es, ep, e, d, r⟩
    exact ⟨o, es, ep, kept e (plainO e (fun us n q => by rw [d] at q; cases q) (fun q => by rw [d] at q; cases q)), d, r⟩
  have inB : K.In (hidT z.heap H) := by
    intro b o e
    refine kept (inK b o e) ?_
    cases q : H b with
    | none => rfl
    | some u =>
      rcases tracked b u q with ⟨rfl, no, _⟩ | ⟨p, hp, rfl, _⟩
      · rw [no] at e
        cases e
      · rw [(tz p hp).out] at e
        cases e
  have md : Mod K mg (hidT z.heap H) := ⟨inB, nsOf glo, ⟨mb, nsOf blt, boot⟩, by obtain ⟨mc, h1, h2⟩ := lim; exact ⟨mc, nsOf h1, h2⟩⟩
  have notDict : ∀ {b : Addr} {m : Str → Option Value} {o : Obj}, z.heap.Ns b m → z.heap.get? b = some o → (∃ es ep, o.data = .dict es ep) := by
    rintro b m o ⟨o', es, ep, e, d, _⟩ e2
    rw [e] at e2
    cases e2
    exact ⟨es, ep, d⟩
  have tb : ∀ p ∈ cs, TabB (hidT z.heap H) mg p.1 p.2 := by
    intro p hp
    obtain ⟨m, o, b1, b2, b3, b4, b5, b6⟩ := bmod
    have et := (tz p hp).empty
    refine ⟨?_, ⟨m, o, b1, b2, fun q => ?_, fun q => ?_, kept b3 (plainO b3 (fun us n q => by rw [b6] at q; cases q) (fun q => by rw [b6] at q; cases q)), b4, b5, b6⟩, fun q => ?_⟩
    · obtain ⟨oc, us, file, tf, flags, tg, inF, text, tt, e1, r1, r2, r3, rest⟩ := (tz p hp).head
      refine ⟨oc, us, file, tf, flags, tg, inF, text, tt, kept e1 (plainO e1 (fun us n q => by rw [r2] at q; cases q) (fun q => ?_)), r1, r2, r3, rest⟩
      rw [r2] at q
      cases q
      simp at r3
    · rw [q] at b3
      obtain ⟨es, ep, d⟩ := notDict glo b3
      rw [b6] at d
      cases d
    · rw [q, et] at b3
      cases b3
      cases b6
    · rw [← q] at et
      obtain ⟨es, ep, d⟩ := notDict glo et
      cases d
  have env : Env0 P w K mg (hidT z.heap H) callerA [] z H :=
    ⟨rfl, md, fun b o e => of_hidT e, Nat.le_of_eq (hidT_size _ _), trivial, (fun b hb => nomatch hb), ok, .of_eq bare⟩
  refine codeAny_mono ((F _ inB (nsOf glo) tb).goes callerA [] z H ⟨[.ref a], []⟩ [.ref a] [.ref a] _ _ ⟨room, rfl⟩ env (bind z (.ref a)) (.cons rfl .nil) (want H isT script)) ?_
  intro res s' h
  match res, h with
  | .error e, h => exact (none_out H e s' h).elim
  | .ok (.ret u), h =>
    obtain ⟨v, G, os, br, un, ok', rv, q⟩ := h
    have q' : v = .bl true := q
    subst q'
    have eu : u = Value.bool true := rv
    subst eu
    have step : ∀ b o, z.heap.get? b = some o → s'.heap.get? b = some o ∨ ∃ p ∈ cs, b = p.2 := by
      intro b o e
      cases hq : H b with
      | none => exact Or.inl (un.keep b o e hq (fun t => nomatch t) (fun t => nomatch t))
      | some t =>
        rcases tracked b t hq with ⟨rfl, _, ob, xs, rfl⟩ | ⟨p, hp, rfl, _⟩
        · have later := ok' b _ (un.frzs b ob _ hq)
          have now := ok b _ hq
          obtain ⟨g1, _⟩ := now
          obtain ⟨g2, _⟩ := later
          rw [e] at g1
          cases g1
          exact Or.inl g2
        · exact Or.inr ⟨p, hp, rfl⟩
    have grown : ∀ p ∈ cs, ∃ more : Array Value, s'.heap.get? p.2 = some { cls := .none, data := .fields more } := fun p hp => by
      obtain ⟨more, e⟩ := un.tbls p.2 #[] (isT p hp)
      exact ⟨_, ok' p.2 _ e⟩
    refine ⟨rfl, ⟨fun b o e => ?_, fun b o e => ?_⟩, os, br⟩
    · rcases step b o e with h | ⟨p, hp, rfl⟩
      · exact Or.inl h
      · obtain ⟨more, hm⟩ := grown p hp
        have et := (tz p hp).empty
        rw [et] at e
        cases e
        exact Or.inr (Or.inl ⟨((tz p hp).head.tab et).isCodeTable, rfl, #[], more, rfl, by rw [Array.empty_append]; exact hm⟩)
    · rcases step b o e with h | ⟨p, hp, rfl⟩
      · exact ⟨o, h⟩
      · obtain ⟨more, hm⟩ := grown p hp
        exact ⟨_, hm⟩
theorem law_walkT {l : PySem.W.OpenLaw} {n k : Nat} {q : Program} {loose : List Str} {XP : (Str → Option Value) → Heap → Prop} {YP : World → Heap → Prop} {d : DefRec} {K : Params → PySem.W.Frag} {CX : World → CXT} {x : Str}
    (most : l.most = some n) (small : n ≤ sizeLine) (plain : d.params.defaults = []) (room : Room k callerA) (inK : ∀ (w : World) (h : Heap), YP w h → (K w.params).In h)
    (F : ∀ (w : World) (mg : Str → Option Value) (fa : Addr) (h : Heap), YP w h → (K w.params).In h → h.Ns mainGlobals mg → mg d.name = some (.ref fa) →
      ∃ (fd : FuncData) (cs : List (Addr × Addr)) (sp : Sp), (∀ p ∈ cs, TabZ (K w.params) h p.1 p.2) ∧ (∀ (s : Shared) (u : Value), BindsTo s fd ⟨[u], []⟩ [(x, u)]) ∧
        (∀ (H : Hp) (a : Addr) (ns : List Int), ns.length ≤ n → (∀ p ∈ cs, H p.2 = some (.tbl #[])) → SqL (K w.params) H a (ns.map V.int) → sp [.ref a] H (fun v _ => v = .bl true) fun _ _ _ => False) ∧
        ∀ base : Heap, (K w.params).In base → base.Ns mainGlobals mg → (∀ p ∈ cs, TabB base mg p.1 p.2) → FnG l.prog w (K w.params) mg base (CX w) k fa fd [x] sp)
    (none_out : ∀ (w : World) (H : Hp) (s : Shared) (e : Value) (s' : Shared), CX w [] H s (fun _ _ _ => False) e s' → False) :
    PySem.W.WalkO q loose XP YP l.row.toRowW d [] (fun f vs => PySem.call f vs) := by
  refine Att.attach_callB most plain ?_
  intro w s₀ z mg mb fa o pm cd doc a vs ns G Y ho hd hcd hmg hobj hints hlen hbits hg
  obtain ⟨fd, cs, sp, tz, hb, want, hF⟩ := F w mg fa _ Y (inK w _ Y) G.T.g hmg
  exact law_endT (inK w _ Y) G.T.g G.T.b G.T.builtins G.T.nolimit hg tz G.T.bmain hobj hints (Nat.le_trans hlen small) room hF hb (fun H h1 h2 => want H a ns hlen h1 h2) fun H e s' => none_out w H z e s'
end G9

/-! What stays told while tables of code objects grow. -/
namespace G9
open PySem PySem.Spec PyProof.Rows L2 LamX
section
variable {K : PySem.W.Frag} {H G J : Hp} {d p a : Addr} {x v : V} {y : Str} {xs : List V} {u : HO}
theorem ext_of (s : Same H G) : ExtN H G := fun b o e _ => s b o e
theorem rd_ext (s : ExtN H G) (n : ∀ ps, u ≠ .tbl ps) (h : Rd H a u) : Rd G a u := by
  rcases h with h | ⟨o, h⟩
  · exact Or.inl (s _ _ h n)
  · exact Or.inr ⟨o, s _ _ h fun _ z => by cases z⟩
theorem sql_ext (s : ExtN H G) (h : SqL K H a xs) : SqL K G a xs := by
  rcases h with h | h
  · exact Or.inl (rd_ext s (fun _ z => by cases z) h)
  · exact Or.inr h
theorem sqt_ext (s : ExtN H G) (h : SqT K H a xs) : SqT K G a xs := by
  rcases h with h | h
  · exact Or.inl (rd_ext s (fun _ z => by cases z) h)
  · exact Or.inr h
mutual
theorem dp_ext (s : ExtN H G) : ∀ {v : V} {d : PyData}, Dp K H v d → Dp K G v d
  | _, _, .non => .non
  | _, _, .bl b => .bl b
  | _, _, .int i => .int i
  | _, _, .str x => .str x
  | _, _, .lst h r => .lst (sql_ext s h) (dps_ext s r)
  | _, _, .tup h r => .tup (sqt_ext s h) (dps_ext s r)
theorem dps_ext (s : ExtN H G) : ∀ {vs : List V} {ds : List PyData}, DpAll K H vs ds → DpAll K G vs ds
  | _, _, .nil => .nil
  | _, _, .cons h r => .cons (dp_ext s h) (dps_ext s r)
end
theorem ShwT.ext (s : ExtN H G) (h : ShwT K H v y) : ShwT K G v y := by
  rcases h with h | h | h | h | ⟨p, d, e, hd, r⟩ | ⟨p, kvs, ds, e, hd, r⟩
  · exact Or.inl h
  · exact Or.inr (Or.inl h)
  · exact Or.inr (Or.inr (Or.inl h))
  · exact Or.inr (Or.inr (Or.inr (Or.inl h)))
  · exact Or.inr (Or.inr (Or.inr (Or.inr (Or.inl ⟨p, d, e, dp_ext s hd, r⟩))))
  · exact Or.inr (Or.inr (Or.inr (Or.inr (Or.inr ⟨p, kvs, ds, e, s _ _ hd (fun _ z => by cases z), r⟩))))
theorem TyX_ext {t : Value} (s : ExtN H G) (h : TyX K H x t) : TyX K G x t := by
  have n : ∀ {b : Addr} {o : HO}, H b = some o → (∀ ps, o ≠ .tbl ps) → G b = some o := fun e n => s _ _ e n
  cases h with
  | base b =>
    cases b with
    | non => exact .base .non
    | bl b => exact .base (.bl b)
    | int i => exact .base (.int i)
    | str i => exact .base (.str i)
    | flt i => exact .base (.flt i)
    | lst e => exact .base (.lst (n e fun _ z => by cases z))
    | frz e => exact .base (.frz (n e fun _ z => by cases z))
    | tup e => exact .base (.tup (n e fun _ z => by cases z))
    | dK e => exact .base (.dK (n e fun _ z => by cases z))
    | dT e => exact .base (.dT (n e fun _ z => by cases z))
    | ins e c ha hn ht hm => exact .base (.ins (n e fun _ z => by cases z) c ha hn ht hm)
  | byt b => exact .byt b
  | set e => exact .set (n e fun _ z => by cases z)
  | kList e c => exact .kList e c
  | kTuple e c => exact .kTuple e c
  | kDict e c => exact .kDict e c
  | fTuple e => exact .fTuple (n e fun _ z => by cases z)
  | fDict e => exact .fDict (n e fun _ z => by cases z)
theorem NotStr.ext (s : ExtN H G) (h : NotStr K H x) : NotStr K G x := by
  obtain ⟨t, ty, k⟩ := h
  exact ⟨t, TyX_ext s ty, k⟩
theorem KindAt.ext (s : ExtN H G) (h : KindAt K H x) : KindAt K G x := by
  obtain ⟨t, m, ty⟩ := h
  exact ⟨t, m, TyX_ext s ty⟩
theorem none_ext (s : ExtN H G) (n : G p = none) : H p = none ∨ ∃ ps, H p = some (.tbl ps) := by
  cases e : H p with
  | none => exact Or.inl rfl
  | some o =>
    by_cases q : ∃ ps, o = .tbl ps
    · obtain ⟨ps, rfl⟩ := q
      exact Or.inr ⟨ps, rfl⟩
    · rw [s p o e fun ps z => q ⟨ps, z⟩] at n
      cases n
/-- a new thing, or one that H doesn't know, may be set -/
theorem ext_set {o : HO} (s : ExtN H G) (n : H p = none) : ExtN H (upd G p o) := fun b u e t => by
  rw [upd_ne (ne_of_none e n)]
  exact s b u e t
/-- no thing of H but a table perhaps -/
def NoH (H : Hp) (p : Addr) : Prop := ∀ u, H p = some u → ∃ ps, u = .tbl ps
theorem noH_of (s : ExtN H G) (n : G p = none) : NoH H p := fun u e => by
  rcases none_ext s n with h | ⟨ps, h⟩
  · rw [h] at e
    cases e
  · rw [h] at e
    exact ⟨ps, (Option.some.inj e).symm⟩
theorem ext_upd {o : HO} (s : ExtN H G) (n : NoH H p) : ExtN H (upd G p o) := fun b u e t => by
  have ne : b ≠ p := fun z => by
    obtain ⟨ps, h⟩ := n u (z ▸ e)
    exact t ps h
  rw [upd_ne ne]
  exact s b u e t
theorem tabs_same {T : List (Addr × Str)} (s : Same H G) (t : Tabs T H) : Tabs T G := t.ext s
/-- setting what is no table and no code object -/
theorem tabs_upd {T : List (Addr × Str)} {o o' : HO} (t : Tabs T H) (e : H p = some o) (n1 : ∀ ps, o ≠ .tbl ps) (n2 : ∀ c q, o ≠ CodeO c q) : Tabs T (upd H p o') := fun q hq => by
  obtain ⟨ps, h1, h2, h3⟩ := t q hq
  have ne : ∀ {b : Addr} {u : HO}, H b = some u → u ≠ o → upd H p o' b = some u := fun {b u} hb hu => by
    have : b ≠ p := fun z => by
      rw [z, e] at hb
      exact hu (Option.some.inj hb).symm
    rw [upd_ne this]
    exact hb
  refine ⟨ps, ne h1 (fun z => n1 ps z.symm), h2, fun pos cv hc => ?_⟩
  obtain ⟨c, e1, e2⟩ := h3 pos cv hc
  exact ⟨c, e1, ne e2 (fun z => n2 _ _ z.symm)⟩
theorem tabs_lst {T : List (Addr × Str)} {xs ys : List V} (t : Tabs T H) (e : H p = some (.lst xs)) : Tabs T (upd H p (.lst ys)) := tabs_upd t e (fun _ z => by cases z) (fun c q z => by
  unfold CodeO at z
  cases z)
end
end G9

/-! Odd values: data of moderate size whose text has plain signs. -/
namespace G9
open PySem PySem.Spec PyProof.Rows L2
open PySem.Builtin.Str in
theorem quote_two (x : Str) : reprQuote x = 34 ∨ reprQuote x = 39 := by
  unfold reprQuote
  split <;> simp
open PySem.Builtin.Str in
theorem char_ok34 : ∀ c : Fin 128, ((reprChar 34 c.val).all fun x => decide (x < 0x110000)) = true := by decide +kernel
open PySem.Builtin.Str in
theorem char_ok39 : ∀ c : Fin 128, ((reprChar 39 c.val).all fun x => decide (x < 0x110000)) = true := by decide +kernel
open PySem.Builtin.Str in
theorem fold_ok {q : Nat} (hq : q = 34 ∨ q = 39) : ∀ (l : List Nat) (acc : Array Nat), (∀ c ∈ l, c < 128) → (acc.all fun x => decide (x < 0x110000)) = true → ((l.foldl (fun out c => out ++ (reprChar q c).toArray) acc).all fun x => decide (x < 0x110000)) = true
  | [], _, _, h => h
  | c :: r, acc, hl, h => by
    rw [List.foldl_cons]
    refine fold_ok hq r _ (fun d hd => hl d (List.mem_cons_of_mem _ hd)) ?_
    rw [Array.all_append, h, Bool.true_and, List.all_toArray]
    have hc := hl c List.mem_cons_self
    rcases hq with rfl | rfl
    · exact char_ok34 ⟨c, hc⟩
    · exact char_ok39 ⟨c, hc⟩
open PySem.Builtin.Str in
theorem repr_ok {s : Str} (h : ∀ c ∈ s.cps.toList, c < 128) : PyData.strOk (reprText s) = true := by
  have hq := quote_two s
  unfold reprText
  show ((s.cps.foldl (fun out c => out ++ (reprChar (reprQuote s) c).toArray) #[reprQuote s]).push (reprQuote s)).all _ = true
  rw [Array.all_push, ← Array.foldl_toList, Bool.and_eq_true]
  refine ⟨fold_ok hq _ _ h ?_, ?_⟩
  · rcases hq with e | e <;> rw [e] <;> simp
  · rcases hq with e | e <;> rw [e] <;> simp
theorem ok_app {x y : Str} (hx : PyData.strOk x = true) (hy : PyData.strOk y = true) : PyData.strOk (x ++ y) = true := by
  unfold PyData.strOk at *
  show (x.cps ++ y.cps).all _ = true
  rw [Array.all_append, hx, hy]
  rfl
theorem sml_shwT {K : PySem.W.Frag} {H : Hp} {v : V} {d : PyData} {n m : Nat} (h : Dp K H v d) (s : Sml n m d) (hm : m ≤ 60) (hn : n + 1000 ≤ sizeLine) : ShwT K H v d.shown := by
  cases h with
  | non => exact Or.inr (Or.inr (Or.inl ⟨rfl, rfl⟩))
  | bl b => exact Or.inr (Or.inr (Or.inr (Or.inl ⟨b, rfl, by cases b <;> rfl⟩)))
  | int i => exact Or.inl ⟨i, rfl, of_decide_eq_true s.sh, rfl⟩
  | str x => exact Or.inr (Or.inl ⟨x, rfl, by have := s.ln; show (PyData.shown (.str x)).length + 1000 ≤ _; omega, rfl⟩)
  | lst a b => exact Or.inr (Or.inr (Or.inr (Or.inr (Or.inl ⟨_, _, rfl, .lst a b, s.sh, s.nd, Nat.le_trans s.dp hm, by have := s.ln; omega, rfl⟩))))
  | tup a b => exact Or.inr (Or.inr (Or.inr (Or.inr (Or.inl ⟨_, _, rfl, .tup a b, s.sh, s.nd, Nat.le_trans s.dp hm, by have := s.ln; omega, rfl⟩))))
/-- data that may be drawn: small, its text of plain signs -/
def okD (d : PyData) : Bool := d.showable && (!d.hasDict && (decide (d.depth ≤ 4) && (decide (d.shown.length ≤ 4000) && (d.canLay0 && PyData.strOk d.shown))))
theorem okD_sml {d : PyData} (h : okD d = true) : Sml 4000 4 d ∧ PyData.strOk d.shown = true := by
  unfold okD at h
  simp only [Bool.and_eq_true, Bool.not_eq_true', decide_eq_true_eq] at h
  exact ⟨⟨h.1, h.2.1, h.2.2.1, h.2.2.2.1, h.2.2.2.2.1⟩, h.2.2.2.2.2⟩
/-- told of a value that was made since H0, whatever happens to H0's objects -/
def NK (H0 G G' : Hp) : Prop := ∀ b o, H0 b = none → G b = some o → G' b = some o
def OddD (K : PySem.W.Frag) (H0 : Hp) (G : Hp) (v : V) : Prop := (∃ d, okD d = true ∧ (∀ G', NK H0 G G' → Dp K G' v d) ∧ ((∃ s, v = .str s) ∨ ∀ G', NK H0 G G' → NotStr K G' v)) ∨ ∃ p kvs ds, v = .ref p ∧ H0 p = none ∧ G p = some (.dK kvs) ∧ FlatD kvs ds ∧ (PyData.dict ds).showable = true ∧ (PyData.dict ds).depth ≤ 60 ∧ (PyData.dict ds).shown.length ≤ 4000 ∧ PyData.strOk (PyData.dict ds).shown = true
theorem NK.trans {H0 G G' G'' : Hp} (a : NK H0 G G') (b : NK H0 G' G'') : NK H0 G G'' := fun c o n e => b c o n (a c o n e)
theorem NK.of {H0 G G' : Hp} (s : Same G G') : NK H0 G G' := fun b o _ e => s b o e
theorem OddD.nk {K : PySem.W.Frag} {H0 G G' : Hp} {v : V} (s : NK H0 G G') (h : OddD K H0 G v) : OddD K H0 G' v := by
  rcases h with ⟨d, hd, k, ns⟩ | ⟨p, kvs, ds, e, n, g, r⟩
  · exact Or.inl ⟨d, hd, fun J sJ => k J (s.trans sJ), ns.imp id fun z J sJ => z J (s.trans sJ)⟩
  · exact Or.inr ⟨p, kvs, ds, e, n, s _ _ n g, r⟩
theorem OddD.shw {K : PySem.W.Frag} {H0 G : Hp} {v : V} (h : OddD K H0 G v) : ∃ y, ShwT K G v y ∧ PyData.strOk y = true := by
  rcases h with ⟨d, hd, k, _⟩ | ⟨p, kvs, ds, rfl, n, g, f, a1, a2, a3, a4⟩
  · obtain ⟨s, o⟩ := okD_sml hd
    exact ⟨_, sml_shwT (k G fun _ _ _ e => e) s (by omega) (by rw [sizeLine_eq]; omega), o⟩
  · exact ⟨_, Or.inr (Or.inr (Or.inr (Or.inr (Or.inr ⟨p, kvs, ds, rfl, g, f, a1, a2, by rw [sizeLine_eq]; omega, rfl⟩)))), a4⟩
theorem OddD.str {K : PySem.W.Frag} {H0 G : Hp} {v : V} (h : OddD K H0 G v) : (∃ s, v = .str s) ∨ NotStr K G v := by
  rcases h with ⟨d, hd, k, ns⟩ | ⟨p, kvs, ds, rfl, n, g, _⟩
  · exact ns.imp id fun z => z G fun _ _ _ e => e
  · exact Or.inr ⟨_, .base (.dK g), kit_ty (by decide +kernel)⟩
end G9

/-! Comprehensions that make new things, each told by its item; dict(rows of pairs). -/
namespace G9
open PySem PySem.Spec PyProof.Rows L2
theorem Bears.paired {Pr : V → Hp → V → Prop} (b : ∀ x, Bears (Pr x)) {G G' : Hp} {xs ws : List V} (m : ∀ x v, Pr x G v → Pr x G' v) (h : Paired (fun x w => Pr x G w) xs ws) : Paired (fun x w => Pr x G' w) xs ws := Paired.mono (fun x w a => m x w a) h
section
variable {K : PySem.W.Frag} {σ : L2.St} {H : Hp} {t : TT} {te tl : TE} {j : Nat} {Q : VK} {vs : List Nat}
theorem wlc_p {J : It} {xs : List V} {Gd : Hp → Prop} (w : Walk J xs.length Gd (YAt xs)) (stay : ∀ G, Same H G → Gd G) (short : xs.length ≤ 100000) (keep : V → Bool) (Pr : V → Hp → V → Prop) (bear : ∀ x, Bears (Pr x))
    (test : ∀ x ∈ xs, ∀ G, Same H G → ToB t ((wipe σ [j]).set j (some x)) G (keep x)) (val : ∀ x ∈ xs, keep x = true → ∀ G, Same H G → ToW te ((wipe σ [j]).set j (some x)) G (Pr x))
    (fin : ∀ D G ws, H D = none → Same H G → Paired (fun x w => Pr x G w) (xs.filter keep) ws → G D = some (.lst ws) → Q (.ref D) G) : WLc J (gName j) t te [j] σ Q H := by
  intro D hD
  refine lc_it w (fun i G => Same H G ∧ ∃ ws, G D = some (.lst ws) ∧ Paired (fun x w => Pr x G w) ((xs.take i).filter keep) ws) ⟨Same.upd0 hD, [], upd_same, by rw [List.take_zero]; exact .nil⟩ (fun i G _ p => stay G p.1) ?_ (fun G p => ?_)
  · rintro i x G G' hi ⟨sG, ws, gD, all⟩ y
    obtain ⟨rfl, hx⟩ := y
    have mem := List.mem_of_getElem? hx
    have tk := take_succ_of hx
    have up : ∀ {A B : Hp} {l : List V} {us : List V}, Same A B → Paired (fun x w => Pr x A w) l us → Paired (fun x w => Pr x B w) l us := fun s h => Paired.mono (fun x w a => (bear x).same _ _ _ s a) h
    refine s_name ⟨?_, ?_⟩
    · show (((σ.set j none).set j (some x)).set j none) = σ.set j none
      rw [List.set_set, List.set_set]
    refine test x mem _ sG _ fun G1 s1 => ?_
    cases hk : keep x with
    | false =>
      refine i_f rfl ⟨sG.trans s1, ws, s1 _ _ gD, ?_⟩
      rw [tk, List.filter_append, List.filter_cons, if_neg (by rw [hk]; exact Bool.false_ne_true), List.filter_nil, List.append_nil]
      exact up s1 all
    | true =>
      refine i_t rfl ?_
      refine val x mem hk _ (sG.trans s1) _ fun z G2 s2 pz => ?_
      have s02 := s1.trans s2
      have gD2 := s02 _ _ gD
      have lw := Paired.length all
      refine ⟨ws, gD2, ?_, Same.setNew (sG.trans s02) hD, ws ++ [z], upd_same, ?_⟩
      · have h1 : ((xs.take i).filter keep).length ≤ (xs.take i).length := List.length_filter_le _ _
        have h2 : (xs.take i).length ≤ xs.length := by rw [List.length_take]; omega
        rw [sizeLine_eq]
        omega
      · rw [tk, List.filter_append, List.filter_cons, if_pos hk, List.filter_nil]
        have set : ∀ (x' : V) u, Pr x' G2 u → Pr x' (upd G2 D (.lst (ws ++ [z]))) u := fun x' u p => (bear x').set _ _ _ _ _ gD2 (fun _ e => by cases e) p
        exact Paired.snoc (Paired.mono (fun x' u a => set x' u a) (up s02 all)) (set x z pz)
  · obtain ⟨sG, ws, gD, all⟩ := p
    rw [List.take_length] at all
    exact fin D G ws hD sG all gD
theorem l_lcTp {p : Addr} {xs : List V} (h : SqT K H p xs) (keep : V → Bool) (Pr : V → Hp → V → Prop) (bear : ∀ x, Bears (Pr x)) (short : xs.length ≤ 100000) (test : ∀ x ∈ xs, ∀ G, Same H G → ToB t ((wipe σ [j]).set j (some x)) G (keep x))
    (val : ∀ x ∈ xs, keep x = true → ∀ G, Same H G → ToW te ((wipe σ [j]).set j (some x)) G (Pr x)) (fin : ∀ D G ws, H D = none → Same H G → Paired (fun x w => Pr x G w) (xs.filter keep) ws → G D = some (.lst ws) → Q (.ref D) G) : TupLc K (gName j) t te [j] σ Q (.ref p) H :=
  ⟨p, rfl, ⟨xs, h⟩, wlc_p walk_tup (fun _ s => sqt_same s h) short keep Pr bear test val fin⟩
theorem l_lcKp {d : Addr} {kvs : List (Key × V)} {ti : TE} (hi : ∀ (od : Obj) (R : VK), R (.ref d) (locked H d od kvs) → ti σ (locked H d od kvs) R) (hd : H d = some (.dK kvs)) (keep : V → Bool) (Pr : V → Hp → V → Prop) (bear : ∀ x, Bears (Pr x)) (short : kvs.length ≤ 1000)
    (test : ∀ (od : Obj) k, k ∈ kvs.map (·.1) → ∀ G, Same (locked H d od kvs) G → ToB t ((wipe σ [j]).set j (some (kV k))) G (keep (kV k)))
    (val : ∀ (od : Obj) k, k ∈ kvs.map (·.1) → keep (kV k) = true → ∀ G, Same (locked H d od kvs) G → ToW te ((wipe σ [j]).set j (some (kV k))) G (Pr (kV k)))
    (fin : ∀ D G ws, H D = none → Same H G → Paired (fun x w => Pr x G w) ((kvs.map fun p => kV p.1).filter keep) ws → G D = some (.lst ws) → Q (.ref D) G) : tLockE (tLc (iKeys ti) (gName j) t te [j]) σ H Q := by
  refine ⟨d, .dK kvs, hd, trivial, fun od => hi od _ ⟨d, od, rfl, Or.inl ⟨kvs, upd_same, ?_⟩⟩⟩
  have lm : (kvs.map fun p => kV p.1).length = kvs.length := List.length_map _
  have w : Walk (Itk d od kvs) (kvs.map fun p => kV p.1).length (fun G => G d = some (.frz od (.dK kvs))) (YAt (kvs.map fun p => kV p.1)) := by
    rw [lm]
    refine walk_keys.mono (fun _ h => h) fun i H x H' hi _ y => ?_
    obtain ⟨rfl, k, v, hk, rfl⟩ := y
    refine ⟨rfl, ?_⟩
    rw [List.getElem?_map, hk]
    rfl
  have back : ∀ x ∈ kvs.map (fun p => kV p.1), ∃ k, k ∈ kvs.map (·.1) ∧ x = kV k := fun x hx => by
    obtain ⟨pp, hp, rfl⟩ := List.mem_map.mp hx
    exact ⟨pp.1, List.mem_map_of_mem hp, rfl⟩
  refine wlc_p (H := locked H d od kvs) (te := te) (t := t) (Q := fun v H' => H' d = some (.frz od (.dK kvs)) ∧ Q v (upd H' d (.dK kvs))) w (fun G s => at_lock s) (by omega) keep Pr bear (fun x hx G s => ?_) (fun x hx kp G s => ?_) (fun D G ws hD s en e => ?_)
  · obtain ⟨k, hk, rfl⟩ := back x hx
    exact test od k hk G s
  · obtain ⟨k, hk, rfl⟩ := back x hx
    exact val od k hk kp G s
  · have gd := at_lock s
    have hD' : upd H d (.frz od (.dK kvs)) D = none := hD
    have nD : D ≠ d := fun z => by
      rw [z, upd_same] at hD'
      cases hD'
    refine ⟨gd, fin D _ ws ?_ (unlock hd s) (Paired.mono (fun x u p => (bear x).set _ _ _ _ _ gd (fun _ z => by cases z) p) en) (by rw [upd_ne nD]; exact e)⟩
    rw [upd_ne nD] at hD'
    exact hD'
/-- dict(rows), rows of pairs -/
def rDictP (K : PySem.W.Frag) : List V → Hp → VK → Prop := fun xs H Q => ∃ (a : Addr) (ps : List Addr) (kvs : List (Key × V)), xs = [.ref a] ∧ SqL K H a (ps.map V.ref) ∧ Paired (fun p kv => SqT K H p [kV kv.1, kv.2]) ps kvs ∧ ∀ p, H p = none → Q (.ref p) (upd H p (.dK (mergeK [] kvs)))
theorem c_dictP {X : Cx} (hc : X.calm = true) : CallR X (.type "dict") (rDictP X.K) := call_dictP hc
/-- a pair (a text, v) in a tuple -/
def PairT (Pv : Str → Hp → V → Prop) : V → Hp → V → Prop := fun x G w => ∃ t s v, x = .str s ∧ w = .ref t ∧ G t = some (.tup [.str s, v]) ∧ Pv s G v
theorem pairT_bears {Pv : Str → Hp → V → Prop} (b : ∀ s, Bears (Pv s)) (x : V) : Bears (PairT Pv x) := ⟨fun G G' w s ⟨t, z, v, e1, e2, e3, e4⟩ => ⟨t, z, v, e1, e2, s _ _ e3, (b z).same _ _ _ s e4⟩, fun G D o o' w hD no ⟨t, z, v, e1, e2, e3, e4⟩ => by
  have n1 : t ≠ D := fun q => by
    rw [q, hD] at e3
    exact no _ (Option.some.inj e3)
  exact ⟨t, z, v, e1, e2, by rw [upd_ne n1]; exact e3, (b z).set _ _ _ _ _ hD no e4⟩⟩
theorem pairs_list (K : PySem.W.Frag) {Pv : Str → Hp → V → Prop} {G : Hp} : ∀ {ss : List Str} {ws : List V}, Paired (fun x w => PairT Pv x G w) (ss.map V.str) ws → ∃ (ps : List Addr) (kvs : List (Key × V)), ws = ps.map V.ref ∧ Paired (fun p kv => SqT K G p [kV kv.1, kv.2]) ps kvs ∧ Paired (fun (s : Str) (kv : Key × V) => kv.1 = .inr s ∧ Pv s G kv.2) ss kvs
  | [], [], _ => ⟨[], [], rfl, .nil, .nil⟩
  | [], _ :: _, h => nomatch h
  | _ :: _, [], h => nomatch h
  | s :: ss, w :: ws, .cons a r => by
    obtain ⟨t, z, v, e1, e2, e3, e4⟩ := a
    obtain ⟨ps, kvs, h1, h2, h3⟩ := pairs_list K r
    cases e1
    subst e2
    exact ⟨t :: ps, (.inr s, v) :: kvs, by rw [h1]; rfl, .cons (tup_at e3) h2, .cons ⟨rfl, e4⟩ h3⟩
theorem l_dictP {a : Addr} {ps : List Addr} {kvs : List (Key × V)} (h : SqL K H a (ps.map V.ref)) (r : Paired (fun p kv => SqT K H p [kV kv.1, kv.2]) ps kvs) (q : ∀ p G, H p = none → Same H G → G p = some (.dK (mergeK [] kvs)) → Q (.ref p) G) : rDictP K [.ref a] H Q := ⟨a, ps, kvs, rfl, h, r, fun p n => q p _ n (same0 n) upd_same⟩
end
end G9

/-! list(d); new dicts, read step by step. -/
namespace G9
open PySem PySem.Spec PyProof.Rows L2
def rListK : List V → Hp → VK → Prop := fun xs H Q => ∃ (a : Addr) (kvs : List (Key × V)), xs = [.ref a] ∧ Rd H a (.dK kvs) ∧ ∀ p, H p = none → Q (.ref p) (upd H p (.lst (kvs.map fun kv => kV kv.1)))
theorem c_listD {X : Cx} (hc : X.calm = true) : CallR X (.type "list") rListK := call_listD hc
section
variable {H : Hp} {Q : VK} {a : Addr} {kvs : List (Key × V)} {σ : L2.St}
theorem l_listK (h : Rd H a (.dK kvs)) (q : ∀ p G, H p = none → Same H G → G p = some (.lst (kvs.map fun kv => kV kv.1)) → Q (.ref p) G) : rListK [.ref a] H Q := ⟨a, kvs, rfl, h, fun p n => q p _ n (same0 n) upd_same⟩
theorem l_dnew (q : ∀ p G, H p = none → Same H G → G p = some (.dK []) → Q (.ref p) G) : tDNewK σ H Q := fun p n => q p _ n (same0 n) upd_same
end
end G9

/-! x != y, x of a class with an __eq__ of its own and object's __ne__. -/
namespace G9
open PySem PySem.Spec PyProof.Rows L2
section
variable {M : Model} {prog : Program} {w : World} {A : Around} {E : Value → Shared → Prop} {s : Shared} {K : PySem.W.Frag} {x C f : Addr} {ox : Obj} {od : Option Obj} {b tb : Value}
theorem obj_ne (X : K.In s.heap) (I : PySem.W.InstAt s.heap x ox C od) (hs : PySem.W.findIn K (.ref C) "__eq__" = some (some (.ref f))) (hf : PySem.W.isFn K (.ref f) = true) (hu : A.units < cLine) {Q : Fin → Shared → Prop}
    (h : wpAny M A (call (.ref f) [.ref x, b]) (fun v s' => ∃ c, v = .bool c ∧ Q (.done (.ret (.bool (!c)))) s') E s) : wpAny M A (Builtin.«object.__ne__» ⟨[.ref x, b], []⟩) Q E s := by
  unfold Builtin.«object.__ne__»
  repeat (first
    | with_reducible refine wpAny_cRoomFor hu ?_
    | (refine wpAny_bind (m := callSpecialIfBound? (.ref x) (Str.ofString "__eq__") [b]) (PySem.W.ifBound_K X I hs hf (wpAny_mono h (fun r s' hr => ?_) fun _ _ e => e))
       obtain ⟨c, rfl, hq⟩ := hr
       repeat (first | exact hq | exact wpAny_pure hq | exact wpAny_truthy_bool hq | (refine wpAny_bind (m := truthy (.bool _)) (wpAny_truthy_bool ?_)) | wp_step))
    | wp_step)
theorem at_ne {args : List Value} {Q : Option Value → Shared → Prop} (X : K.In s.heap) (I : PySem.W.InstAt s.heap x ox C od) (hs : PySem.W.findIn K (.ref C) "__ne__" = some (some (.builtin "object.__ne__")))
    (h : wpAny M A (call (.builtin "object.__ne__") (.ref x :: args)) (fun v => Q (some v)) E s) : wpAny M A (callSpecialIfBound? (.ref x) "__ne__" args) Q E s := by
  simp only [callSpecialIfBound?, bindSpecialIfBound?]
  refine wpAny_holding (wpAny_bind (wpAny_bind (wpAny_bind (I.type.here ((PySem.W.looks_findIn X hs).here ?_)))))
  refine wpAny_bind (wpAny_askSetting (wpAny_ite ?_))
  have fin : wpAny M A (call (.builtin "object.__ne__") ([.ref x] ++ args) >>= fun v => pure (some v)) Q E s := wpAny_bind (wpAny_mono h (fun v s' z => wpAny_pure z) fun _ _ z => z)
  split
  · exact wpAny_bind (wpAny_of_eq (F.cmp_object.ne.bind _) (wpAny_pure (by exact fin)))
  · exact wpAny_tryCatch (wpAny_bind (wpAny_of_eq (F.cmp_object.ne.bind _) (wpAny_pure (by exact fin))))
theorem ne_own {Q : Value → Shared → Prop} (hu : A.units + 1 < cLine) (X : K.In s.heap) (I : PySem.W.InstAt s.heap x ox C od) (hb : PySem.W.Looks (model prog w) s.heap (typeOf b) tb) (hn : PySem.W.notFirst K C tb = true)
    (hm : PySem.W.mroIn K C (.type "object") = some true) (hne : PySem.W.findIn K (.ref C) "__ne__" = some (some (.builtin "object.__ne__")))
    (hs : PySem.W.findIn K (.ref C) "__eq__" = some (some (.ref f))) (hf : PySem.W.isFn K (.ref f) = true)
    (h : wpAny (model prog w) A.in1 (call (.ref f) [.ref x, b]) (fun v s' => ∃ c, v = .bool c ∧ Q (.bool (!c)) s') E s) : wpAny (model prog w) A (compareOp .NotEq (.ref x) b) Q E s := by
  have one : wpAny (model prog w) A (tryCompare (.ref x) "__ne__" b) (fun r s' => ∃ c, r = some (.bool c) ∧ Q (.bool c) s') E s := by
    unfold tryCompare
    refine wpAny_bind (at_ne X I hne (wpAny_call (codeAny_call_builtin F.cmp_object.ne.plain F.cmpEntry_ne (PySem.W.check_slot F.cmpKind_ne F.cmpSplit_ne (I.type.andThen (PySem.W.looks_mroIn X hm)) (F.cmpArgs_ne _ _) (obj_ne (A := A.in1) X I hs hf hu (wpAny_mono h (fun v s' hv => ?_) fun _ _ e => e))))))
    obtain ⟨c, rfl, hq⟩ := hv
    first | exact ⟨c, rfl, wpAny_pure ⟨_, rfl, hq⟩⟩ | exact ⟨c, rfl, ⟨_, rfl, hq⟩⟩
  unfold compareOp
  unfold richCompare
  simp only [oneThing_ref]
  refine wpAny_holding (wpAny_bind (wpAny_cRoomFor (Nat.lt_of_succ_lt hu) ?_))
  rw [cmpInfo_NotEq]
  dsimp only
  refine wpAny_bind (I.type.here (wpAny_bind (hb.here ?_)))
  split
  · rename_i q
    have e : PySem.W.subIn K tb (.ref C) = some false := by
      rcases Bool.or_eq_true_iff.mp hn with e | e
      · rw [beq_iff_eq.mp e] at q; simp at q
      · exact beq_iff_eq.mp e
    refine wpAny_bind ((PySem.W.looks_subIn X e).here ?_)
    simp only [Bool.false_eq_true, if_false]
    refine wpAny_bind (wpAny_mono one (fun r s' z => ?_) fun _ _ e => e)
    obtain ⟨c, rfl, hq⟩ := z
    exact wpAny_pure hq
  · refine wpAny_bind (wpAny_pure ?_)
    simp only [Bool.false_eq_true, if_false]
    refine wpAny_bind (wpAny_mono one (fun r s' z => ?_) fun _ _ e => e)
    obtain ⟨c, rfl, hq⟩ := z
    exact wpAny_pure hq
end
/-- a class with object's own __ne__ -/
structure DunNe (K : PySem.W.Frag) (C : Addr) : Prop where
  has : PySem.W.findIn K (.ref C) "__ne__" = some (some (.builtin "object.__ne__"))
  obj : PySem.W.mroIn K C (.type "object") = some true
section
variable {X : Cx} {CX : CXT} {k : Nat} {f C : Addr} {fd : FuncData} {ps : List Str} {sp : Sp} {E : XK}
def rOwnNe (K : PySem.W.Frag) (C : Addr) (sp : Sp) (E : XK) : R2 := fun x y H Q => ∃ t, TyX K H y t ∧ PySem.W.notFirst K C t = true ∧ OwnCall C sp E x [y] H fun v G => ∃ b, v = .bl b ∧ Q (.bl (!b)) G
theorem op_ownNe (N : DunNe X.K C) (D : Dun X.K C "__eq__" f) (F : FnG X.prog X.w X.K X.mg X.base CX k f fd ps sp) (room : RoomG (k + 1) X.A) (hb : Binds X.K fd ps []) (hx : Passes CX X E) : OpR X (compareOp .NotEq) (rOwnNe X.K C sp E) := by
  intro pins s σ H x y v u Q I rx ry h
  obtain ⟨t, ty, nf, a, dx, fs, rfl, ea, q⟩ := h
  obtain rfl : v = Value.ref a := rx
  obtain ⟨mA, O, _⟩ := ins_get I.hok ea
  obtain ⟨od, J, _⟩ := O.look
  refine ne_own (by have := room.r.un; omega) I.kIn J (looks_ty I ry ty) nf N.obj N.has D.here D.isf (thn (calleeA (A := X.A.in1) rfl F room.in1 hb .nil hx I (.cons (rv_ref a) (.cons ry .nil)) q) fun r z hz => ?_)
  obtain ⟨w1, H1, I1, rw1, b, rfl, q1⟩ := hz
  obtain rfl : r = Value.bool b := rw1
  exact ⟨b, rfl, .bl (!b), H1, I1, rfl, q1⟩
end
end G9

/-! x = [.. for k in d if ..], d a dict; list(d.items()); l + m. -/
namespace G9
open PySem PySem.Spec PyProof.Rows L2
section
variable {K : PySem.W.Frag} {σ : L2.St} {H : Hp} {Q : VK} {D : Ends} {t : TE} {i : Nat}
theorem s_setLcK (q : tLockE t σ H fun v G => D.nx (σ.set i (some v)) G) : tLock (tAsg t (gName i)) D σ H := q
/-- list(d.items()) -/
theorem s_listI {te : TE} (q : te σ H fun x G => LiI.rItemsL x G Q) : LiI.tListItems te σ H Q := q
theorem paired_imp {α β : Type} {F R : α → β → Prop} (h : ∀ a b, F a b → R a b) : ∀ {l : List α} {m : List β}, Paired F l m → Paired R l m
  | [], [], .nil => .nil
  | _ :: _, _ :: _, .cons a t => .cons (h _ _ a) (paired_imp h t)
theorem paired_app {α β : Type} {F : α → β → Prop} : ∀ {l : List α} {m : List β} {l2 : List α} {m2 : List β}, Paired F l m → Paired F l2 m2 → Paired F (l ++ l2) (m ++ m2)
  | [], [], _, _, .nil, b => b
  | _ :: _, _ :: _, _, _, .cons a t, b => .cons a (paired_app t b)
theorem l_listI {d : Addr} {kvs : List (Key × V)} (hd : H d = some (.dK kvs)) (q : ∀ p ts G, H p = none → Same H G → G p = some (.lst (ts.map V.ref)) → Paired (fun (t : Addr) (e : Key × V) => SqT K G t [kV e.1, e.2]) ts kvs → Q (.ref p) G) : LiI.rItemsL (.ref d) H Q :=
  ⟨d, kvs, rfl, hd, fun G p ts g n _ _ e r => q p ts G n g e (paired_imp (fun _ _ z => tup_at z) r)⟩
end
end G9

/-! How the sort compares pairs (a text, v), each text once. -/
namespace G9
open PySem PySem.W PySem.Spec PyProof.Rows L2
section
variable {prog : Program} {w : World} {A : Around} {E : Value → Shared → Prop} {s : Shared}
/-- u is a tuple: the text y, then v -/
def PairS (h : Heap) (u : Value) (y : Str) (v : Value) : Prop := ∃ a t, u = .ref a ∧ IsTup h a #[.str y t, v]
/-- the first item of a tuple, where it is a text -/
def headS (h : Heap) (u : Value) : Str := DT.txOf (DT.seqAt0 h (DT.refOf (some u)))
theorem PairS.head {h : Heap} {u : Value} {y : Str} {v : Value} (p : PairS h u y v) : headS h u = y := by
  obtain ⟨a, t, rfl, e⟩ := p
  show DT.txOf (DT.seqAt0 h a) = y
  rw [DT.seqAt0_of e]
  rfl
theorem heads_of {h : Heap} : ∀ vs : List Value, (∀ u ∈ vs, ∃ y v, PairS h u y v) → ∃ fs : List Value, KatTups h vs fs ∧ fs.length = vs.length ∧ ∀ f ∈ fs, ∃ y t, f = Value.str y t
  | [], _ => ⟨[], KatTups.nil, rfl, fun _ m => nomatch m⟩
  | u :: us, p => by
    obtain ⟨fs, k, len, all⟩ := heads_of us fun x m => p x (List.mem_cons_of_mem _ m)
    obtain ⟨y, v, a, t, rfl, o, ho, hc, n, hd⟩ := p u List.mem_cons_self
    refine ⟨.str y t :: fs, KatTups.cons ho hc hd rfl k, congrArg (· + 1) len, fun f m => ?_⟩
    rcases List.mem_cons.mp m with e | m
    · exact ⟨y, t, e⟩
    · exact all f m
theorem kind_sv {vs : List Value} {ρ : Str → Int} (ne : 0 < vs.length) (x : ∀ u ∈ vs, ∃ y v, PairS s.heap u y v) (one : ∀ u ∈ vs, ∀ z ∈ vs, headS s.heap u = headS s.heap z → u = z)
    (rank : ∀ u ∈ vs, ∀ z ∈ vs, decide ((headS s.heap u).cps.toList < (headS s.heap z).cps.toList) = decide (ρ (headS s.heap u) < ρ (headS s.heap z))) (Q : SortKind → Shared → Prop)
    (h : ∀ κ, TS.Cmp prog w A s κ (pairsOf vs) (fun u => ρ (headS s.heap u)) → Q κ s) : wpAny (model prog w) A (keyKind' vs.toArray) Q E s := by
  obtain ⟨fs, k, len, all⟩ := heads_of vs x
  refine kat_kind (T := Value.type "str") k (by omega) (fun f m => ?_) rfl (h _ ?_)
  · obtain ⟨y, t, rfl⟩ := all f m
    exact PySem.W.Looks.now
  · intro p q hp hq Q' E' hQ
    rw [pairsOf_toList] at hp hq
    have mp := (mem_zip_self hp).2
    have mq := (mem_zip_self hq).2
    have rk := rank _ mp _ mq
    have un := one _ mp _ mq
    obtain ⟨y, v, pp⟩ := x _ mp
    obtain ⟨z, v', pq⟩ := x _ mq
    replace hQ : Q' (decide (ρ (headS s.heap p.1) < ρ (headS s.heap q.1))) s := hQ
    rw [← rk] at hQ
    rw [pp.head, pq.head] at hQ un
    obtain ⟨a, t, e1, i1⟩ := pp
    obtain ⟨b, t', e2, i2⟩ := pq
    obtain ⟨o, ho, hc, n, hd⟩ := i1
    obtain ⟨o', ho', hc', n', hd'⟩ := i2
    rw [e1, e2] at un ⊢
    refine kat_lt ho hd ho' hd' ?_
    show KatLex prog w A true false Q' [(Value.str y t, Value.str z t'), (v, v')] 0 s
    refine kat_cons (SeqAt.EqAt.str_str y t z t' prog w _ _ ?_)
    refine kat_go (fun e => ?_) (fun e => ?_)
    · obtain rfl : y = z := eq_of_beq e
      cases un rfl
      cases ho.symm.trans ho'
      have ev : v = v' := by
        have := hd.symm.trans hd'
        injection this with e3
        injection e3 with e4
        injection e4 with _ e5
        injection e5
      cases ev
      refine kat_yes (kat_cons (SeqAt.EqAt.same v prog w _ _ ?_))
      refine kat_go (fun _ => ?_) (fun e0 => nomatch e0)
      refine kat_yes (kat_nil ?_)
      rw [show decide (y.cps.toList < y.cps.toList) = false from decide_eq_false (List.lt_irrefl _)] at hQ
      exact hQ
    · exact kat_no (oneLt_str hQ)
end
end G9

/-! sorted(d.items()), d a dict of texts. -/
namespace G9
open PySem PySem.Spec PyProof.Rows L2
section
variable {X : Cx}
/-- d.items() -/
def rItemsK : V → List V → Hp → VK → Prop := fun x xs H Q => ∃ (d : Addr) (kvs : List (Key × V)), x = .ref d ∧ xs = [] ∧ H d = some (.dK kvs) ∧ ∀ p, H p = none → Q (.ref p) (upd H p (DX.itemsO p d))
theorem mt_itemsK : MtR X "dict.items" rItemsK := by
  intro pins s σ H x xs v us Q I rx rxs h
  obtain ⟨d, kvs, rfl, rfl, hd, q⟩ := h
  obtain rfl : v = Value.ref d := rx
  cases rxs
  obtain ⟨_, nosys, vs, _, o, es, ep, ho, ex, dat, _⟩ := (show ObjOk X.prog X.w H s.heap d (.dK kvs) from I.hok d _ hd)
  refine DT.callItems (es := es) (ep := ep) nosys ⟨o, ho, ex, dat⟩ ?_
  have new : H s.heap.objs.size = none := I.hok.fresh (Nat.le_refl _)
  refine ⟨.ref s.heap.objs.size, upd H s.heap.objs.size (DX.itemsO s.heap.objs.size d), ?_, rfl, q _ new⟩
  exact I.laid (t' := s.toks) (fun _ _ e => Heap.get?_push_of_some _ e) (Nat.le_refl _) (DX.itemsO_ok (Heap.get?_push_size _ rfl))
abbrev entS (e : Str × V) : Key × V := (.inr e.1, e.2)
theorem pairs_at {P : Program} {w : World} {es : List DictEntry} {vs : List (Key × Value)} {ks : List (Str × V)} (r : Pairs (mixKind P w) es vs) (kv : KV (ks.map entS) vs) {j : Nat} {en : DictEntry} (h : es[j]? = some en) : ∃ e t, ks[j]? = some e ∧ en.key = .str e.1 t ∧ RelV e.2 en.val := by
  have len : es.length = vs.length := r.length
  have lj : j < vs.length := by
    rw [← len]
    exact (List.getElem?_eq_some_iff.mp h).1
  obtain ⟨⟨k, v⟩, hk⟩ : ∃ q, vs[j]? = some q := ⟨_, List.getElem?_eq_getElem lj⟩
  obtain ⟨i1, i2⟩ := r.get? h hk
  obtain ⟨q, hq, a, b⟩ := DX.pget kv hk
  rw [List.getElem?_map] at hq
  cases he : ks[j]? with
  | none => rw [he] at hq; exact nomatch hq
  | some e =>
    rw [he] at hq
    obtain rfl : entS e = q := Option.some.inj hq
    have ki : keyIs (Sum.inr e.1) en.key = true := by
      have z := i1
      rw [← show Sum.inr e.1 = k from a] at z
      exact z
    have rk := relV_key ki
    obtain ⟨t, ht⟩ := rk
    exact ⟨e, t, rfl, ht, by rw [i2]; exact b⟩
end
end G9

/-! sorted(d.items()), d a dict of texts: the rule. -/
namespace G9
open PySem PySem.Spec PyProof.Rows L2
/-! ### a rank of texts: how many of some stand ahead -/
def rankS (l : List Str) (s : Str) : Int := ((l.countP fun k => decide (k.cps.toList < s.cps.toList) : Nat) : Int)
theorem cnt_le {α : Type} {p q : α → Bool} : ∀ {l : List α}, (∀ x ∈ l, p x = true → q x = true) → l.countP p ≤ l.countP q
  | [], _ => Nat.le_refl _
  | a :: r, h => by
    have t := cnt_le (l := r) fun x hx => h x (List.mem_cons_of_mem _ hx)
    have ha := h a List.mem_cons_self
    rw [List.countP_cons, List.countP_cons]
    cases hp : p a with
    | false => cases q a <;> simp <;> omega
    | true =>
      rw [ha hp]
      omega
theorem cnt_lt {α : Type} {p q : α → Bool} {y : α} : ∀ {l : List α}, (∀ x ∈ l, p x = true → q x = true) → y ∈ l → p y = false → q y = true → l.countP p < l.countP q
  | [], _, m, _, _ => nomatch m
  | a :: r, h, m, hp, hq => by
    have ha := h a List.mem_cons_self
    rw [List.countP_cons, List.countP_cons]
    rcases List.mem_cons.mp m with e | m
    · have t := cnt_le (l := r) fun x hx => h x (List.mem_cons_of_mem _ hx)
      rw [← e, hp, hq]
      simp
      omega
    · have t := cnt_lt (l := r) (fun x hx => h x (List.mem_cons_of_mem _ hx)) m hp hq
      cases hpa : p a with
      | false => cases q a <;> simp <;> omega
      | true =>
        rw [ha hpa]
        omega
theorem lt_ltS {x y : Str} : (decide (x.cps.toList < y.cps.toList) = true) ↔ ltS x y := by
  rw [dec_lt, decide_eq_true_eq]
theorem ltS_of_not {x y : Str} (h : ¬ ltS x y) : leS y x := by
  show ltCps x.cps.toList y.cps.toList = false
  cases q : ltCps x.cps.toList y.cps.toList with
  | false => rfl
  | true => exact absurd (show ltS x y from q) h
theorem rank_ok {l : List Str} {x y : Str} (hx : x ∈ l) : decide (x.cps.toList < y.cps.toList) = decide (rankS l x < rankS l y) := by
  by_cases h : ltS x y
  · rw [lt_ltS.mpr h]
    refine (decide_eq_true ?_).symm
    unfold rankS
    have := cnt_lt (l := l) (p := fun k => decide (k.cps.toList < x.cps.toList)) (q := fun k => decide (k.cps.toList < y.cps.toList)) (y := x) (fun z _ hz => lt_ltS.mpr (ltS_trans (lt_ltS.mp hz) h)) hx (by
      cases e : decide (x.cps.toList < x.cps.toList) with
      | false => rfl
      | true => exact absurd (lt_ltS.mp e) (ltS_irrefl x)) (lt_ltS.mpr h)
    omega
  · have e0 : decide (x.cps.toList < y.cps.toList) = false := by
      cases e : decide (x.cps.toList < y.cps.toList) with
      | false => rfl
      | true => exact absurd (lt_ltS.mp e) h
    rw [e0]
    refine (decide_eq_false ?_).symm
    unfold rankS
    have := cnt_le (l := l) (p := fun k => decide (k.cps.toList < y.cps.toList)) (q := fun k => decide (k.cps.toList < x.cps.toList)) (fun z _ hz => by
      refine lt_ltS.mpr ?_
      have a := lt_ltS.mp hz
      rcases leS_iff.mp (ltS_of_not h) with b | b
      · exact ltS_trans a b
      · rw [← b]
        exact a)
    omega
theorem rank_le {l : List Str} {x y : Str} (hy : y ∈ l) (h : rankS l x ≤ rankS l y) : leS x y := by
  refine ltS_of_not fun c => ?_
  have e := rank_ok (l := l) (x := y) (y := x) hy
  rw [lt_ltS.mpr c] at e
  have := of_decide_eq_true e.symm
  omega
section
variable {X : Cx}
theorem dk_raw {pins : List (Addr × Obj)} {σ : L2.St} {H : Hp} {s : Shared} {a : Addr} {ks : List (Str × V)} (I : Inv X pins σ H s) (ha : H a = some (.dK (ks.map entS))) :
    ∃ es ep, DT.Raw s.heap a es ep ∧ es.size = ks.length ∧ (ks.map (·.1)).Nodup ∧ ∀ (j : Nat) (en : DictEntry), es[j]? = some en → ∃ e t, ks[j]? = some e ∧ en.key = .str e.1 t ∧ RelV e.2 en.val := by
  obtain ⟨_, nosys, vs, kv, o, es, ep, ho, ex, dat, _, pr, nd⟩ := (show ObjOk X.prog X.w H s.heap a (.dK (ks.map entS)) from I.hok a _ ha)
  refine ⟨es, ep, ⟨o, ho, ex, dat⟩, ?_, ?_, fun j en h => ?_⟩
  · have e1 := pr.length
    have e2 := KV.length kv
    rw [List.length_map] at e2
    rw [← Array.length_toList]
    omega
  · have e := KV.keys kv
    rw [← e, List.map_map] at nd
    have e3 : (ks.map ((·.1) ∘ entS)) = (ks.map (·.1)).map Sum.inr := by
      rw [List.map_map]
      rfl
    rw [e3] at nd
    unfold List.Nodup at nd ⊢
    rw [List.pairwise_map] at nd
    exact nd.imp fun h e => h (congrArg Sum.inr e)
  · refine pairs_at pr kv (j := j) (en := en) ?_
    rw [Array.getElem?_toList]
    exact h
/-- sorted(d.items()) -/
def rSortItK : List V → Hp → VK → Prop := fun vs H Q => ∃ (p a : Addr) (ks : List (Str × V)), vs = [.ref p] ∧ H p = some (DX.itemsO p a) ∧ H a = some (.dK (ks.map entS)) ∧ ks.length < 64 ∧
  ∀ (H' : Hp) (l : Addr) (ps : List (Addr × Str × V)), Same H H' → (ps.map (·.2)).Perm ks → (ps.map (·.2)).Pairwise (fun e f => leS e.1 f.1) → H' l = some (.lst (ps.map fun z => V.ref z.1)) →
    (∀ z ∈ ps, H' z.1 = some (.tup [.str z.2.1, z.2.2])) → Q (.ref l) H'
theorem call_sortedIt (hc : X.calm = true) : CallR X (.builtin "sorted") rSortItK := by
  intro pins s σ H xs us Q I r h
  obtain ⟨p, a, ks, rfl, hp, ha, h64, q⟩ := h
  obtain rfl := Vals.ref1 r
  have seen : s.heap.IsItemsView p a := (show ObjOk X.prog X.w H s.heap p (DX.itemsO p a) from I.hok p _ hp).1
  obtain ⟨es, ep, rawD, lk, ndk, pr0⟩ := dk_raw I ha
  have calmH : X.A.handled = none := I.ok.hd hc
  refine DT.sortedI (es := es) (ep := ep) calmH seen rawD (by rw [sizeLine_eq]; omega) fun h9 tk cells keepH ltC lenC made => ?_
  have lenAs : cells.length = ks.length := by omega
  have ndAs : cells.Nodup := List.Pairwise.imp (fun h => Nat.ne_of_lt h) made.rise
  have pr : ∀ (j : Nat) (b : Addr), cells[j]? = some b → ∃ (e : Str × V) (t : Tok) (u : Value), ks[j]? = some e ∧ RelV e.2 u ∧ h9.get? b = some { cls := .type "tuple", data := .seq #[Value.str e.1 t, u] } := by
    intro j b atC
    obtain ⟨ent, atE, hg⟩ := made.pairs j b atC
    obtain ⟨e, t, e1, f2, e3⟩ := pr0 j ent atE
    exact ⟨e, t, ent.val, e1, e3, by rw [hg, f2]⟩
  have laidL : (h9.push { cls := .type "list", data := .seq (cells.map Value.ref).toArray }).get? h9.objs.size = some (seqObj "list" (cells.map Value.ref).toArray 0) := Heap.get?_push_size _ rfl
  have oldB : ∀ b o, s.heap.get? b = some o → (h9.push { cls := .type "list", data := .seq (cells.map Value.ref).toArray }).get? b = some o := fun b o e => Heap.get?_push_of_some _ (keepH b o e)
  have notL : ∀ b o, h9.get? b = some o → b ≠ h9.objs.size := fun b o e => Nat.ne_of_lt (Heap.lt_size e)
  generalize eqL : h9.push { cls := .type "list", data := .seq (cells.map Value.ref).toArray } = hL at laidL oldB ⊢
  have madeB : ∀ b o, h9.get? b = some o → hL.get? b = some o := fun b o e => by rw [← eqL]; exact Heap.get?_push_of_some _ e
  have pinP : ∀ (j : Nat) (b : Addr), cells[j]? = some b → ∃ (e : Str × V) (u : Value), ks[j]? = some e ∧ PairS (TS.midHeap hL h9.objs.size (cells.map Value.ref)) (.ref b) e.1 u := by
    intro j b atC
    obtain ⟨e, t, u, atE, _, hg⟩ := pr j b atC
    exact ⟨e, u, atE, b, t, rfl, ⟨_, TS.midHeap_old (notL _ _ hg) (madeB _ _ hg), rfl, 0, rfl⟩⟩
  have txtOf : ∀ (j : Nat) (b : Addr) (e : Str × V), cells[j]? = some b → ks[j]? = some e → headS (TS.midHeap hL h9.objs.size (cells.map Value.ref)) (.ref b) = e.1 := by
    intro j b e atC atE
    obtain ⟨e9, u, atK, pairP⟩ := pinP j b atC
    have sameE : e9 = e := Option.some.inj (atK.symm.trans atE)
    rw [← sameE]
    exact pairP.head
  have atV : ∀ v ∈ cells.map Value.ref, ∃ (j : Nat) (b : Addr) (e : Str × V), v = .ref b ∧ cells[j]? = some b ∧ ks[j]? = some e := by
    intro v memV
    obtain ⟨b, memB, rfl⟩ := List.mem_map.mp memV
    obtain ⟨j, atC⟩ := List.mem_iff_getElem?.mp memB
    obtain ⟨e, _, _, atE, _⟩ := pr j b atC
    exact ⟨j, b, e, rfl, atC, atE⟩
  have memk : ∀ {j : Nat} {e : Str × V}, ks[j]? = some e → e.1 ∈ ks.map (·.1) := fun h => List.mem_map_of_mem (List.mem_of_getElem? h)
  refine wpAny_call_entry PyProof.Rows.slot_list_sort ⟨_, laidL, rfl⟩ PyProof.Rows.entry_list_sort
    (SK.plain_sort (s := { s with heap := hL, toks := tk }) (r := fun v => rankS (ks.map (·.1)) (headS (TS.midHeap hL h9.objs.size (cells.map Value.ref)) v)) laidL (by rw [List.length_map]; omega) (fun h2' Qk hQk => ?_) fun ps out q1 q2 q3 => ⟨.none, rfl, ?_⟩) (PyProof.Rows.args_list_sort _)
  · refine kind_sv (s := { s with heap := TS.midHeap hL h9.objs.size (cells.map Value.ref), toks := tk }) (ρ := rankS (ks.map (·.1))) (by omega) (fun v memV => ?_) (fun v memV u memU hq => ?_) (fun v memV u memU => ?_) Qk hQk
    · obtain ⟨j, b, e, rfl, atC, atE⟩ := atV v memV
      obtain ⟨e9, u, _, pairP⟩ := pinP j b atC
      exact ⟨e9.1, u, pairP⟩
    · obtain ⟨j, b, e, rfl, atC, atE⟩ := atV v memV
      obtain ⟨jj, c2, f2, rfl, atC2, atE2⟩ := atV u memU
      replace hq : headS (TS.midHeap hL h9.objs.size (cells.map Value.ref)) (.ref b) = headS (TS.midHeap hL h9.objs.size (cells.map Value.ref)) (.ref c2) := hq
      rw [txtOf j b e atC atE, txtOf jj c2 f2 atC2 atE2] at hq
      have k1 : (ks.map (·.1))[j]? = some e.1 := by rw [List.getElem?_map, atE]; rfl
      have k2 : (ks.map (·.1))[jj]? = some e.1 := by rw [List.getElem?_map, atE2, hq]; rfl
      have ej : j = jj := (List.getElem?_inj (List.getElem?_eq_some_iff.mp k1).1 ndk).mp (k1.trans k2.symm)
      subst ej
      rw [Option.some.inj (atC.symm.trans atC2)]
    · obtain ⟨j, b, e, rfl, atC, atE⟩ := atV v memV
      obtain ⟨jj, c2, f2, rfl, atC2, atE2⟩ := atV u memU
      show decide ((headS (TS.midHeap hL h9.objs.size (cells.map Value.ref)) (.ref b)).cps.toList < (headS (TS.midHeap hL h9.objs.size (cells.map Value.ref)) (.ref c2)).cps.toList) = decide (rankS (ks.map (·.1)) (headS (TS.midHeap hL h9.objs.size (cells.map Value.ref)) (.ref b)) < rankS (ks.map (·.1)) (headS (TS.midHeap hL h9.objs.size (cells.map Value.ref)) (.ref c2)))
      rw [txtOf j b e atC atE, txtOf jj c2 f2 atC2 atE2]
      exact rank_ok (memk atE)
  · show EP X pins σ Q (.ref h9.objs.size) { s with heap := sortedHeap hL h9.objs.size (cells.map Value.ref) out, toks := tk }
    obtain ⟨outZ, permZ, eqZ⟩ := L2.perm_lift (fun z : Addr × Str × V => (Value.ref z.1, Value.ref z.1)) q2 (cells.zip ks) (DX.zip_self Value.ref cells ks lenAs)
    have ixOf : ∀ z ∈ outZ, ∃ j : Nat, cells[j]? = some z.1 ∧ ks[j]? = some z.2 := by
      intro z' hz'
      obtain ⟨j, atC⟩ := List.mem_iff_getElem?.mp (permZ.mem_iff.mp hz')
      exact ⟨j, List.getElem?_zip_eq_some.mp atC⟩
    have outEq : out.toList = outZ.map fun z => Value.ref z.1 := by
      rw [q1, ← eqZ, List.map_map]
      all_goals rfl
    have outPerm : (outZ.map (·.2)).Perm ks := by
      have e := permZ.map (·.2)
      have m2 : (cells.zip ks).map (·.2) = ks := List.map_snd_zip (by rw [lenAs]; exact Nat.le_refl _)
      rw [m2] at e
      exact e
    have outSort : (outZ.map (·.2)).Pairwise (fun e f => leS e.1 f.1) := by
      rw [← eqZ, List.pairwise_map] at q3
      rw [List.pairwise_map]
      refine List.Pairwise.imp_of_mem (fun {x y} hx hy h => ?_) q3
      obtain ⟨j, j1, k2⟩ := ixOf x hx
      obtain ⟨i, i1, i2⟩ := ixOf y hy
      have h9 : rankS (ks.map (·.1)) (headS (TS.midHeap hL h9.objs.size (cells.map Value.ref)) (.ref x.1)) ≤ rankS (ks.map (·.1)) (headS (TS.midHeap hL h9.objs.size (cells.map Value.ref)) (.ref y.1)) := h
      rw [txtOf j _ _ j1 k2, txtOf i _ _ i1 i2] at h9
      exact rank_le (memk i2) h9
    have behind : ∀ b o, b ≠ h9.objs.size → hL.get? b = some o → (sortedHeap hL h9.objs.size (cells.map Value.ref) out).get? b = some o := fun b o memB e => (PyProof.Rows.sortedHeap_old memB (Heap.lt_size e)).trans e
    have behindS : ∀ b o, s.heap.get? b = some o → (sortedHeap hL h9.objs.size (cells.map Value.ref) out).get? b = some o := fun b o e => behind b o (notL _ _ (keepH b o e)) (oldB b o e)
    obtain ⟨capF, atF⟩ := PyProof.Rows.sortedHeap_at (vs := cells.map Value.ref) (out := out) laidL
    have W1 : Inv X pins σ H { s with heap := sortedHeap hL h9.objs.size (cells.map Value.ref) out, toks := tk } := I.kept (t' := tk) behindS
    have newL : H h9.objs.size = none := I.hok.fresh (Nat.le_of_lt ltC)
    have lenL : (outZ.map fun z => V.ref z.1).length ≤ sizeLine := by
      have e := outPerm.length_eq
      rw [List.length_map] at e
      rw [List.length_map, sizeLine_eq]
      omega
    have valsL : Vals (outZ.map fun z => V.ref z.1) out.toList := by
      rw [outEq]
      exact vals_maps (fun z : Addr × Str × V => V.ref z.1) (fun z => Value.ref z.1) outZ fun _ _ => rfl
    have W2 : Inv X pins σ (upd H h9.objs.size (.lst (outZ.map fun z => V.ref z.1))) { s with heap := sortedHeap hL h9.objs.size (cells.map Value.ref) out, toks := tk } :=
      W1.take (h' := sortedHeap hL h9.objs.size (cells.map Value.ref) out) (t' := tk) (fun b ob _ e => e) (I.fpOk (Nat.le_of_lt ltC) newL) ⟨lenL, out.toList, capF, valsL, atF⟩
    obtain ⟨H2, W3, g, took⟩ := DX.takeT (P := fun b vs => ∃ (j : Nat) (e : Str × V), cells[j]? = some b ∧ ks[j]? = some e ∧ vs = [.str e.1, e.2]) I cells _ W2 ndAs fun b memB => by
      obtain ⟨j, atC⟩ := List.mem_iff_getElem?.mp memB
      obtain ⟨e, t, u, atE, ru, hg⟩ := pr j b atC
      have lowB : s.heap.objs.size ≤ b := Nat.le_of_lt (made.above b memB)
      refine ⟨lowB, ?_, [.str e.1, e.2], ⟨j, e, atC, atE, rfl⟩, fun H3 => ⟨(by rw [sizeLine_eq]; show 2 ≤ 16777216; omega), [Value.str e.1 t, u], .cons ⟨t, rfl⟩ (.cons ru .nil), ⟨_, behind _ _ (notL _ _ hg) (madeB _ _ hg), rfl, 0, rfl⟩⟩⟩
      rw [upd_ne (notL _ _ hg)]
      exact I.hok.fresh lowB
    have grown : ∀ b o, H b = some o → H2 b = some o := fun b o e => g b o (by rw [upd_ne (ne_of_none e newL)]; exact e)
    refine ⟨.ref h9.objs.size, H2, W3, rfl, q H2 h9.objs.size outZ grown outPerm outSort (g _ _ upd_same) fun z' hz' => ?_⟩
    obtain ⟨i, i1, i2⟩ := ixOf z' hz'
    obtain ⟨vs, ⟨j, e, j1, k2, ev⟩, hH⟩ := took z'.1 (List.mem_of_getElem? i1)
    have sameIx : i = j := (List.getElem?_inj (List.getElem?_eq_some_iff.mp i1).1 ndAs).mp (i1.trans j1.symm)
    subst sameIx
    have sameE : e = z'.2 := Option.some.inj (k2.symm.trans i2)
    rw [ev, sameE] at hH
    exact hH
end
section
variable {K : PySem.W.Frag} {σ : L2.St} {H : Hp} {Q : VK} {te : TE} {d p : Addr} {kvs : List (Key × V)} {ks : List (Str × V)}
def LItems (K : PySem.W.Frag) (x : V) (H : Hp) (Q : VK) : Prop := tyV K "dict" x H ∧ rItemsK x [] H Q
theorem s_itemsK (q : te σ H fun x H1 => LItems K x H1 Q) : tBM0 K "dict" rItemsK te σ H Q := q
theorem l_itemsK (hd : H d = some (.dK kvs)) (q : ∀ p G, H p = none → Same H G → G p = some (DX.itemsO p d) → Q (.ref p) G) : LItems K (.ref d) H Q :=
  ⟨Or.inr (Or.inr (Or.inl ⟨rfl, Or.inl ⟨kvs, hd⟩⟩)), d, kvs, rfl, rfl, hd, fun p n => q p _ n (same0 n) upd_same⟩
theorem l_sortIt (hp : H p = some (DX.itemsO p d)) (hd : H d = some (.dK (ks.map entS))) (h64 : ks.length < 64)
    (q : ∀ (l : Addr) (G : Hp) (ps : List (Addr × Str × V)), Same H G → (ps.map (·.2)).Perm ks → (ps.map (·.2)).Pairwise (fun e f => leS e.1 f.1) → G l = some (.lst (ps.map fun z => V.ref z.1)) → (∀ z ∈ ps, G z.1 = some (.tup [.str z.2.1, z.2.2])) → Q (.ref l) G) : rSortItK [.ref p] H Q :=
  ⟨p, d, ks, rfl, hp, hd, h64, fun G l ps a b c e f => q l G ps a b c e f⟩
theorem paired_perm {α β : Type} {F : α → β → Prop} {l k : List α} (p : l.Perm k) : ∀ {b : List β}, Paired F k b → ∃ b', Paired F l b' ∧ b'.Perm b := by
  induction p with
  | nil => exact fun h => ⟨_, h, .refl _⟩
  | cons x _ ih =>
    intro b h
    cases h with
    | cons a t =>
      obtain ⟨b', h1, h2⟩ := ih t
      exact ⟨_ :: b', .cons a h1, .cons _ h2⟩
  | swap x y l =>
    intro b h
    cases h with
    | cons a t =>
      cases t with
      | cons a2 t2 => exact ⟨_, .cons a2 (.cons a t2), .swap _ _ _⟩
  | trans _ _ ih1 ih2 =>
    intro b h
    obtain ⟨b1, h1, p1⟩ := ih2 h
    obtain ⟨b2, h2, p2⟩ := ih1 h1
    exact ⟨b2, h2, p2.trans p1⟩
end
end G9

/-! type(x) is T. -/
namespace G9
open PySem PySem.Spec PyProof.Rows L2
section
variable {X : Cx} {K : PySem.W.Frag} {H : Hp} {Q : VK} {x : V} {T a b : String}
def rIsTy : R2 := fun x y H Q => ∃ a b, x = .ty a ∧ y = .ty b ∧ Q (.bl (decide (a = b))) H
theorem op_isT : OpR X (compareOp .Is) rIsTy := op_isTyB
theorem l_isT (q : Q (.bl (decide (a = b))) H) : rIsTy (.ty a) (.ty b) H Q := ⟨a, b, rfl, rfl, q⟩
theorem l_typ (h : TyB K H x T) (q : Q (.ty T) H) : rTyp K [x] H Q := ⟨x, T, rfl, h, q⟩
end
end G9

/-! x op y, x of an own class with that operator, y of a built-in kind. -/
namespace G9
open PySem PySem.Spec PyProof.Rows L2
/-- of a kind: what its own lookups find for the operator, and that it is no kind of the class -/
def binKind (K : PySem.W.Frag) (C : Addr) (n T : String) : Bool :=
  (PySem.W.findIn K (.type T) (PySem.dunder n)).isSome && ((PySem.W.findIn K (.type T) (PySem.dunderR n)).isSome && decide (PySem.W.subIn K (.type T) (.ref C) = some false))
def binB (K : PySem.W.Frag) (C : Addr) (n : String) : Bool := same (PySem.W.findIn K (.ref C) (PySem.dunderR n)) (some none) && kindsB.all fun T => binKind K C n T
structure BinB (K : PySem.W.Frag) (C : Addr) (n : String) : Prop where
  back : PySem.W.findIn K (.ref C) (PySem.dunderR n) = some none
  kind : ∀ T ∈ kindsB, binKind K C n T = true
theorem binB_mk {K : PySem.W.Frag} {C : Addr} {n : String} (h : binB K C n = true) : BinB K C n := by
  obtain ⟨h1, h2⟩ := Bool.and_eq_true_iff.mp h
  exact ⟨same_ok h1, List.all_eq_true.mp h2⟩
section
open PySem.W
variable {prog : Program} {w : World} {A : Around} {E : Value → Shared → Prop} {s : Shared} {K : Frag} {x C L f : Addr} {hp0 : Heap} {m : Str → Option Value} {ox : Obj} {od : Option Obj} {T : String}
theorem bin_kind {op : Operator} {y : Value} {lf lr : Option Value} {Q : Value → Shared → Prop} (fr : Fr hp0 L s.heap m) (k0 : K.In hp0) (inst : InstAt s.heap x ox C od) (ty : Looks (model prog w) s.heap (typeOf y) (.type T)) (first : selfFirst K C = true)
    (own : findIn K (.ref C) (PySem.dunder op.info.2) = some (some (.ref f))) (fn : isFn K (.ref f) = true) (back : findIn K (.ref C) (PySem.dunderR op.info.2) = some none) (l1 : findIn K (.type T) (PySem.dunder op.info.2) = some lf) (l2 : findIn K (.type T) (PySem.dunderR op.info.2) = some lr)
    (sub : subIn K (.type T) (.ref C) = some false) (goes : wpAny (model prog w) A (call (.ref f) [.ref x, y]) (W.CmpBack Q) E s) : wpAny (model prog w) A (binaryOp op (.ref x) y) Q E s := by
  have now := k0.keeps fr.keep
  obtain ⟨cd, rest, hcd, hm⟩ := ksp_first first
  rcases inf : op.info with ⟨sg, n⟩
  rw [inf] at own back l1 l2
  dsimp only at own back l1 l2
  have run := ksp_try now inst own fn goes
  obtain ⟨h0, g0, d0, t0, o0⟩ := s
  have tx : Looks (model prog w) h0 (typeOf (.ref x)) (.ref C) := inst.type
  have fx : Looks (model prog w) h0 (fillsNumberSlot (.ref C) n) true := fills_K now hcd hm own
  have fy := ksp_fillsT (M := model prog w) now l1 l2
  have py : Looks (model prog w) h0 (numberSlotInPython (.ref C) n) true := ksp_inPy now own back (.inl rfl)
  have pt : Looks (model prog w) h0 (numberSlotInPython (.type T) n) false := Looks.of_pure rfl
  have isn : Looks (model prog w) h0 (isSubtype (.type T) (.ref C)) false := looks_subIn now sub
  have lk2 : Looks (model prog w) h0 (typeLookup (.type T) (PySem.dunderR n)) lr := looks_findIn now l2
  have differ : (Value.ref C == Value.type T) = false := Bool.eq_false_iff.mpr fun q => nomatch beq_iff_eq.mp q
  generalize ((lf.isSome && !isSeqSlot lf) || (lr.isSome && !isSeqSlot lr)) = fills at fy
  simp only [binaryOp, inf]
  unfold binaryOp1
  refine wpAny_holding (wpAny_bind (wpAny_bind (tx.at (wpAny_bind (ty.at (wpAny_bind (fx.at ?_)))))))
  simp only [differ, Bool.false_eq_true, if_false]
  cases fills <;> (ksp_lk; (refine wpAny_mono run (fun r s1 z => ?_) fun _ _ e => e); obtain ⟨v, rfl, z⟩ := z; ksp_lk; exact z)
end
section
variable {X : Cx} {CX : CXT} {k : Nat} {f C : Addr} {fd : FuncData} {ps : List Str} {sp : Sp} {E : XK}
def rOwnBinK (K : PySem.W.Frag) (C : Addr) (sp : Sp) (E : XK) : R2 := fun x y H Q => KindAt K H y ∧ OwnCall C sp E x [y] H Q
theorem op_ownBinK {op : Operator} (hc : PySem.W.selfFirst X.K C = true) (B : BinB X.K C op.info.2) (D : Dun X.K C (PySem.dunder op.info.2) f) (F : FnG X.prog X.w X.K X.mg X.base CX k f fd ps sp) (room : RoomG k X.A) (hb : Binds X.K fd ps []) (hx : Passes CX X E) : OpR X (binaryOp op) (rOwnBinK X.K C sp E) := by
  intro pins s σ H x y v u Q I rx ry h
  obtain ⟨⟨T, hT, ty⟩, a, dx, fs, rfl, ea, q⟩ := h
  obtain rfl : v = Value.ref a := rx
  obtain ⟨mA, O, _⟩ := ins_get I.hok ea
  obtain ⟨od, J, _⟩ := O.look
  obtain ⟨mF, hF⟩ := I.fr
  obtain ⟨b1, b2⟩ := Bool.and_eq_true_iff.mp (B.kind T hT)
  obtain ⟨b2, b3⟩ := Bool.and_eq_true_iff.mp b2
  obtain ⟨lf, h1⟩ := Option.isSome_iff_exists.mp b1
  obtain ⟨lr, h2⟩ := Option.isSome_iff_exists.mp b2
  refine bin_kind hF I.ok.mod.kin J (looks_ty I ry ty) hc D.here D.isf B.back h1 h2 (of_decide_eq_true b3) (thn (calleeA rfl F room hb .nil hx I (.cons (rv_ref a) (.cons ry .nil)) q) fun r z hz => ?_)
  obtain ⟨w1, H1, I1, rw1, q1⟩ := hz
  exact not_ni rw1 ⟨w1, H1, I1, rw1, q1⟩
end
end G9

namespace K02
open PySem PySem.Spec PyProof.Rows L2 G9
local macro_rules | `(tactic| walk_at "s1") => `(tactic| first
  | ((with_reducible refine' s_var ?hv ?_); (case hv => rfl))
  | (with_reducible refine' s_seq ?_) | (with_reducible refine' s_asg ?_) | (with_reducible refine' s_name ?_) | (with_reducible refine' s_if ?_) | (with_reducible refine' s_ret ?_)
  | (with_reducible refine' s_op ?_) | (with_reducible refine' s_c ?_) | (with_reducible refine' s_cb ?_) | (with_reducible refine' s_cons ?_) | (with_reducible refine' s_nil ?_) | (with_reducible refine' s_consts ?_)
  | (with_reducible refine' s_call ?_) | (with_reducible refine' s_lst ?_) | (with_reducible refine' s_tup ?_) | (with_reducible refine' s_un ?_) | (with_reducible refine' s_next ?_) | (with_reducible refine' s_drop ?_)
  | (with_reducible refine' s_ifE ?_) | (with_reducible refine' s_tb ?_) | (with_reducible refine' s_test ?_) | (with_reducible refine' s_yes ?_) | (with_reducible refine' s_not ?_) | (with_reducible refine' s_and ?_) | (with_reducible refine' s_or ?_)
  | (with_reducible refine' s_andV ?_) | (with_reducible refine' s_orV ?_) | (with_reducible refine' s_notV ?_) | (with_reducible refine' s_chain ?_)
  | (with_reducible refine' s_par ?_) | (with_reducible refine' l_par ?_) | (with_reducible refine' s_par3 ?_) | (with_reducible refine' l_par3 ?_)
  | (with_reducible refine' s_sub ?_) | (with_reducible refine' s_gnil ?_) | (with_reducible refine' s_gcons ?_) | (with_reducible refine' s_slice ?_) | (with_reducible refine' s_nopart ?_) | (with_reducible refine' s_part ?_) | (with_reducible refine' l_part ?_)
  | (with_reducible refine' s_forR ?_) | (with_reducible refine' s_forT ?_) | (with_reducible refine' s_forL ?_) | (with_reducible refine' s_lcS ?_) | (with_reducible refine' s_lcL ?_) | (with_reducible refine' s_lcT ?_)
  | (with_reducible refine' s_fld ?_) | (with_reducible refine' s_setf ?_) | (with_reducible refine' s_ownM ?_) | (with_reducible refine' s_ownP ?_) | (with_reducible refine' s_clsM ?_) | (with_reducible refine' s_dget ?_) | (with_reducible refine' s_makeKW ?_) | (with_reducible refine' s_dcLp ?_)
  | ((with_reducible refine' s_told0 ?hv ?_); (case hv => rfl))
  | (with_reducible refine' l_inS ?_) | (with_reducible refine' l_ninS ?_)
  | ((with_reducible refine' l_slS ?hc ?_); (case hc => first | with_reducible assumption | decide +kernel | omega))
  | (with_reducible refine' l_bl ?_) | (with_reducible refine' l_I0 ?_) | (with_reducible refine' l_U ?_)
  | ((with_reducible refine' l_I ?hc ?_); (case hc => first | decide +kernel | omega | (left; constructor <;> omega) | (right; constructor <;> omega) | (constructor <;> omega)))
  | ((with_reducible refine' l_eq ?hc ?_); (case hc => rfl)) | ((with_reducible refine' l_ne ?hc ?_); (case hc => rfl))
  | (with_reducible refine' l_int1 ?_) | (with_reducible refine' l_int1b ?_) | (with_reducible refine' l_abs ?_) | (with_reducible refine' l_max2 ?_) | (with_reducible refine' l_min2 ?_)
  | ((with_reducible refine' l_addS ?hc ?_); (case hc => first | with_reducible assumption | decide +kernel | omega))
  | (with_reducible refine' l_leS ?_)
  | ((with_reducible refine' l_lenL ?hc ?_); (case hc => first | assumption | exact SqL.of (by assumption)))
  | ((with_reducible refine' l_lenS ?hc ?_); (case hc => first | with_reducible assumption | decide +kernel)))
local macro_rules | `(tactic| walk_at "s") => `(tactic| repeat (walk_at "s1"))
def topS (i : Nat) : Stmt := PySem.Challenge.pw_skipahead_k02_whole_books_as_values.main.body.getD i (.Pass ⟨0, 0, 0, 0⟩)
abbrev s_is_count : Stmt := (topS 6)
theorem sc_is_count : FnScope ["value"] ["value"] (defScope s_is_count) := ⟨rfl, rfl, rfl, by decide +kernel, rfl, by decide +kernel, by decide +kernel⟩
abbrev s_is_name : Stmt := (topS 10)
theorem sc_is_name : FnScope ["value"] ["value"] (defScope s_is_name) := ⟨rfl, rfl, rfl, by decide +kernel, rfl, by decide +kernel, by decide +kernel⟩
abbrev s_is_answer : Stmt := (topS 11)
theorem sc_is_answer : FnScope ["value"] ["value"] (defScope s_is_answer) := ⟨rfl, rfl, rfl, by decide +kernel, rfl, by decide +kernel, by decide +kernel⟩
abbrev s_is_names : Stmt := (topS 12)
theorem sc_is_names : FnScope ["value", "last", "name"] ["value"] (defScope s_is_names) := ⟨rfl, rfl, rfl, by decide +kernel, rfl, by decide +kernel, by decide +kernel⟩
abbrev s_book_with : Stmt := (topS 18)
theorem sc_book_with : FnScope ["pairs", "book"] ["pairs"] (defScope s_book_with) := ⟨rfl, rfl, rfl, by decide +kernel, rfl, by decide +kernel, by decide +kernel⟩
abbrev s_outcomes_in : Stmt := (topS 19)
theorem sc_outcomes_in : FnScope ["pairs", "command"] ["pairs"] (defScope s_outcomes_in) := ⟨rfl, rfl, rfl, by decide +kernel, rfl, by decide +kernel, by decide +kernel⟩
abbrev s_checked_pairs : Stmt := (topS 20)
theorem sc_checked_pairs : FnScope ["commands", "command"] ["commands"] (defScope s_checked_pairs) := ⟨rfl, rfl, rfl, by decide +kernel, rfl, by decide +kernel, by decide +kernel⟩
abbrev s_is_pair : Stmt := (topS 21)
theorem sc_is_pair : FnScope ["value", "takes", "answers", "name"] ["value"] (defScope s_is_pair) := ⟨rfl, rfl, rfl, by decide +kernel, rfl, by decide +kernel, by decide +kernel⟩
abbrev s_need_book : Stmt := (topS 22)
theorem sc_need_book : FnScope ["book"] ["book"] (defScope s_need_book) := ⟨rfl, rfl, rfl, by decide +kernel, rfl, by decide +kernel, by decide +kernel⟩
abbrev s__law_dice : Stmt := (topS 24)
theorem sc__law_dice : FnScope ["script", "at", "cell", "great", "mixed"] ["script", "at"] (defScope s__law_dice) := ⟨rfl, rfl, rfl, by decide +kernel, rfl, by decide +kernel, by decide +kernel⟩
abbrev s__law_roll : Stmt := (topS 25)
theorem sc__law_roll : FnScope ["dice", "total", "found", "one", "two"] ["dice", "total"] (defScope s__law_roll) := ⟨rfl, rfl, rfl, by decide +kernel, rfl, by decide +kernel, by decide +kernel⟩
abbrev s__law_one_of : Stmt := (topS 26)
theorem sc__law_one_of : FnScope ["dice", "items"] ["dice", "items"] (defScope s__law_one_of) := ⟨rfl, rfl, rfl, by decide +kernel, rfl, by decide +kernel, by decide +kernel⟩
abbrev s__law_mixed : Stmt := (topS 27)
theorem sc__law_mixed : FnScope ["dice", "items", "left", "turn"] ["dice", "items"] (defScope s__law_mixed) := ⟨rfl, rfl, rfl, by decide +kernel, rfl, by decide +kernel, by decide +kernel⟩
abbrev s__law_name : Stmt := (topS 28)
theorem sc__law_name : FnScope ["dice", "taken", "letters", "word", "turn", "spare", "letter", "one"] ["dice", "taken"] (defScope s__law_name) := ⟨rfl, rfl, rfl, by decide +kernel, rfl, by decide +kernel, by decide +kernel⟩
abbrev s__law_names : Stmt := (topS 29)
theorem sc__law_names : FnScope ["dice", "size", "found", "turn"] ["dice", "size"] (defScope s__law_names) := ⟨rfl, rfl, rfl, by decide +kernel, rfl, by decide +kernel, by decide +kernel⟩
abbrev s__law_pairs : Stmt := (topS 30)
theorem sc__law_pairs : FnScope ["dice", "most", "answers", "names", "pool", "found", "word", "some"] ["dice", "most", "answers"] (defScope s__law_pairs) := ⟨rfl, rfl, rfl, by decide +kernel, rfl, by decide +kernel, by decide +kernel⟩
abbrev s__law_outcomes : Stmt := (topS 31)
theorem sc__law_outcomes : FnScope ["pairs", "command"] ["pairs", "command"] (defScope s__law_outcomes) := ⟨rfl, rfl, rfl, by decide +kernel, rfl, by decide +kernel, by decide +kernel⟩
abbrev s__law_odd : Stmt := (topS 32)
theorem sc__law_odd : FnScope ["dice", "some"] ["dice"] (defScope s__law_odd) := ⟨rfl, rfl, rfl, by decide +kernel, rfl, by decide +kernel, by decide +kernel⟩
abbrev s__law_met : Stmt := (topS 33)
theorem sc__law_met : FnScope ["call", "e"] ["call"] (defScope s__law_met) := ⟨rfl, rfl, rfl, by decide +kernel, rfl, by decide +kernel, by decide +kernel⟩
abbrev s__law_told : Stmt := (topS 34)
theorem sc__law_told : FnScope ["book", "one"] ["book"] (defScope s__law_told) := ⟨rfl, rfl, rfl, by decide +kernel, rfl, by decide +kernel, by decide +kernel⟩
abbrev s__law_is_right : Stmt := (topS 35)
theorem sc__law_is_right : FnScope ["book", "pairs", "names", "one", "due"] ["book", "pairs"] (defScope s__law_is_right) := ⟨rfl, rfl, rfl, by decide +kernel, rfl, by decide +kernel, by decide +kernel⟩
abbrev s__law_stranger : Stmt := (topS 36)
theorem sc__law_stranger : FnScope ["book", "odd", "pairs", "told"] ["book", "odd", "pairs"] (defScope s__law_stranger) := ⟨rfl, rfl, rfl, by decide +kernel, rfl, by decide +kernel, by decide +kernel⟩
abbrev s__law_second : Stmt := (topS 37)
theorem sc__law_second : FnScope ["dice", "pairs", "more", "found", "one"] ["dice", "pairs"] (defScope s__law_second) := ⟨rfl, rfl, rfl, by decide +kernel, rfl, by decide +kernel, by decide +kernel⟩
abbrev s__law_both_right : Stmt := (topS 38)
theorem sc__law_both_right : FnScope ["dice", "one", "two", "pairs", "more", "shared", "clash", "both", "same", "within", "word"] ["dice", "one", "two", "pairs", "more"] (defScope s__law_both_right) := ⟨rfl, rfl, rfl, by decide +kernel, rfl, by decide +kernel, by decide +kernel⟩
abbrev s__law_right : Stmt := (topS 39)
theorem sc__law_right : FnScope ["dice", "pairs", "given", "turn", "told", "more", "less", "other", "odd", "one", "word", "name_here"] ["dice"] (defScope s__law_right) := ⟨rfl, rfl, rfl, by decide +kernel, rfl, by decide +kernel, by decide +kernel⟩
abbrev s_law : Stmt := (topS 40)
theorem sc_law : FnScope ["script", "at", "dice", "turn", "answers", "takes", "written", "due"] ["script"] (defScope s_law) := ⟨rfl, rfl, rfl, by decide +kernel, rfl, by decide +kernel, by decide +kernel⟩
abbrev s_Book___init__ : Stmt := (inClass (topS 17) 0)
theorem sc_Book___init__ : FnScope ["self", "commands"] ["self", "commands"] (defScope s_Book___init__) := ⟨rfl, rfl, rfl, by decide +kernel, rfl, by decide +kernel, by decide +kernel⟩
abbrev s_Book_of : Stmt := (inClass (topS 17) 1)
theorem sc_Book_of : FnScope ["cls", "commands"] ["cls", "commands"] (defScope s_Book_of) := ⟨rfl, rfl, rfl, by decide +kernel, rfl, by decide +kernel, by decide +kernel⟩
abbrev s_Book_commands : Stmt := (inClass (topS 17) 2)
theorem sc_Book_commands : FnScope ["self"] ["self"] (defScope s_Book_commands) := ⟨rfl, rfl, rfl, by decide +kernel, rfl, by decide +kernel, by decide +kernel⟩
abbrev s_Book_takes : Stmt := (inClass (topS 17) 3)
theorem sc_Book_takes : FnScope ["self", "command"] ["self", "command"] (defScope s_Book_takes) := ⟨rfl, rfl, rfl, by decide +kernel, rfl, by decide +kernel, by decide +kernel⟩
abbrev s_Book_answers : Stmt := (inClass (topS 17) 4)
theorem sc_Book_answers : FnScope ["self", "command"] ["self", "command"] (defScope s_Book_answers) := ⟨rfl, rfl, rfl, by decide +kernel, rfl, by decide +kernel, by decide +kernel⟩
abbrev s_Book_outcomes : Stmt := (inClass (topS 17) 5)
theorem sc_Book_outcomes : FnScope ["self", "command"] ["self", "command"] (defScope s_Book_outcomes) := ⟨rfl, rfl, rfl, by decide +kernel, rfl, by decide +kernel, by decide +kernel⟩
abbrev s_Book_without : Stmt := (inClass (topS 17) 6)
theorem sc_Book_without : FnScope ["self", "command", "name"] ["self", "command"] (defScope s_Book_without) := ⟨rfl, rfl, rfl, by decide +kernel, rfl, by decide +kernel, by decide +kernel⟩
abbrev s_Book_is_within : Stmt := (inClass (topS 17) 7)
theorem sc_Book_is_within : FnScope ["self", "other", "command"] ["self", "other"] (defScope s_Book_is_within) := ⟨rfl, rfl, rfl, by decide +kernel, rfl, by decide +kernel, by decide +kernel⟩
abbrev s_Book___or__ : Stmt := (inClass (topS 17) 8)
theorem sc_Book___or__ : FnScope ["self", "other", "pairs", "command"] ["self", "other"] (defScope s_Book___or__) := ⟨rfl, rfl, rfl, by decide +kernel, rfl, by decide +kernel, by decide +kernel⟩
abbrev s_Book___getitem__ : Stmt := (inClass (topS 17) 9)
theorem sc_Book___getitem__ : FnScope ["self", "command"] ["self", "command"] (defScope s_Book___getitem__) := ⟨rfl, rfl, rfl, by decide +kernel, rfl, by decide +kernel, by decide +kernel⟩
abbrev s_Book___contains__ : Stmt := (inClass (topS 17) 10)
theorem sc_Book___contains__ : FnScope ["self", "value"] ["self", "value"] (defScope s_Book___contains__) := ⟨rfl, rfl, rfl, by decide +kernel, rfl, by decide +kernel, by decide +kernel⟩
abbrev s_Book___len__ : Stmt := (inClass (topS 17) 12)
theorem sc_Book___len__ : FnScope ["self"] ["self"] (defScope s_Book___len__) := ⟨rfl, rfl, rfl, by decide +kernel, rfl, by decide +kernel, by decide +kernel⟩
abbrev s_Book___eq__ : Stmt := (inClass (topS 17) 13)
theorem sc_Book___eq__ : FnScope ["self", "other"] ["self", "other"] (defScope s_Book___eq__) := ⟨rfl, rfl, rfl, by decide +kernel, rfl, by decide +kernel, by decide +kernel⟩
abbrev s_Book___str__ : Stmt := (inClass (topS 17) 14)
theorem sc_Book___str__ : FnScope ["self"] ["self"] (defScope s_Book___str__) := ⟨rfl, rfl, rfl, by decide +kernel, rfl, by decide +kernel, by decide +kernel⟩
abbrev s_UnknownName_init : Stmt := (inClass (topS 4) 0)
theorem sc_UnknownName_init : SupScope ["self", "name"] ["self", "name"] "self" (defScope s_UnknownName_init) := ⟨rfl, rfl, rfl, by decide +kernel, rfl, by decide +kernel, by decide +kernel, by decide +kernel, by decide +kernel, by decide +kernel, by decide +kernel⟩
abbrev prog0 : Program := PySem.Challenge.rw_skipahead_k02_whole_books_as_values.prog
structure Txt (K : PySem.W.Frag) (mg : Str → Option Value) where
  a_is_count : Addr
  d_is_count : FuncData
  F_is_count : Fun K "is_count" "is_count" s_is_count a_is_count d_is_count
  m_is_count : mg "is_count" = some (.ref a_is_count)
  b_is_count : Binds K d_is_count ["value"] []
  a_is_name : Addr
  d_is_name : FuncData
  F_is_name : Fun K "is_name" "is_name" s_is_name a_is_name d_is_name
  m_is_name : mg "is_name" = some (.ref a_is_name)
  b_is_name : Binds K d_is_name ["value"] []
  a_is_answer : Addr
  d_is_answer : FuncData
  F_is_answer : Fun K "is_answer" "is_answer" s_is_answer a_is_answer d_is_answer
  m_is_answer : mg "is_answer" = some (.ref a_is_answer)
  b_is_answer : Binds K d_is_answer ["value"] []
  a_is_names : Addr
  d_is_names : FuncData
  F_is_names : Fun K "is_names" "is_names" s_is_names a_is_names d_is_names
  m_is_names : mg "is_names" = some (.ref a_is_names)
  b_is_names : Binds K d_is_names ["value"] []
  a_book_with : Addr
  d_book_with : FuncData
  F_book_with : Fun K "book_with" "book_with" s_book_with a_book_with d_book_with
  m_book_with : mg "book_with" = some (.ref a_book_with)
  b_book_with : Binds K d_book_with ["pairs"] []
  a_outcomes_in : Addr
  d_outcomes_in : FuncData
  F_outcomes_in : Fun K "outcomes_in" "outcomes_in" s_outcomes_in a_outcomes_in d_outcomes_in
  m_outcomes_in : mg "outcomes_in" = some (.ref a_outcomes_in)
  b_outcomes_in : Binds K d_outcomes_in ["pairs"] []
  a_checked_pairs : Addr
  d_checked_pairs : FuncData
  F_checked_pairs : Fun K "checked_pairs" "checked_pairs" s_checked_pairs a_checked_pairs d_checked_pairs
  m_checked_pairs : mg "checked_pairs" = some (.ref a_checked_pairs)
  b_checked_pairs : Binds K d_checked_pairs ["commands"] []
  a_is_pair : Addr
  d_is_pair : FuncData
  F_is_pair : Fun K "is_pair" "is_pair" s_is_pair a_is_pair d_is_pair
  m_is_pair : mg "is_pair" = some (.ref a_is_pair)
  b_is_pair : Binds K d_is_pair ["value"] []
  a_need_book : Addr
  d_need_book : FuncData
  F_need_book : Fun K "need_book" "need_book" s_need_book a_need_book d_need_book
  m_need_book : mg "need_book" = some (.ref a_need_book)
  b_need_book : Binds K d_need_book ["book"] []
  a__law_dice : Addr
  d__law_dice : FuncData
  F__law_dice : Fun K "_law_dice" "_law_dice" s__law_dice a__law_dice d__law_dice
  m__law_dice : mg "_law_dice" = some (.ref a__law_dice)
  b__law_dice : Binds K d__law_dice ["script", "at"] []
  a__law_roll : Addr
  d__law_roll : FuncData
  F__law_roll : Fun K "_law_roll" "_law_roll" s__law_roll a__law_roll d__law_roll
  m__law_roll : mg "_law_roll" = some (.ref a__law_roll)
  b__law_roll : Binds K d__law_roll ["dice", "total"] []
  a__law_one_of : Addr
  d__law_one_of : FuncData
  F__law_one_of : Fun K "_law_one_of" "_law_one_of" s__law_one_of a__law_one_of d__law_one_of
  m__law_one_of : mg "_law_one_of" = some (.ref a__law_one_of)
  b__law_one_of : Binds K d__law_one_of ["dice", "items"] []
  a__law_mixed : Addr
  d__law_mixed : FuncData
  F__law_mixed : Fun K "_law_mixed" "_law_mixed" s__law_mixed a__law_mixed d__law_mixed
  m__law_mixed : mg "_law_mixed" = some (.ref a__law_mixed)
  b__law_mixed : Binds K d__law_mixed ["dice", "items"] []
  a__law_name : Addr
  d__law_name : FuncData
  F__law_name : Fun K "_law_name" "_law_name" s__law_name a__law_name d__law_name
  m__law_name : mg "_law_name" = some (.ref a__law_name)
  b__law_name : Binds K d__law_name ["dice", "taken"] []
  a__law_names : Addr
  d__law_names : FuncData
  F__law_names : Fun K "_law_names" "_law_names" s__law_names a__law_names d__law_names
  m__law_names : mg "_law_names" = some (.ref a__law_names)
  b__law_names : Binds K d__law_names ["dice", "size"] []
  a__law_pairs : Addr
  d__law_pairs : FuncData
  F__law_pairs : Fun K "_law_pairs" "_law_pairs" s__law_pairs a__law_pairs d__law_pairs
  m__law_pairs : mg "_law_pairs" = some (.ref a__law_pairs)
  b__law_pairs : Binds K d__law_pairs ["dice", "most", "answers"] []
  a__law_outcomes : Addr
  d__law_outcomes : FuncData
  F__law_outcomes : Fun K "_law_outcomes" "_law_outcomes" s__law_outcomes a__law_outcomes d__law_outcomes
  m__law_outcomes : mg "_law_outcomes" = some (.ref a__law_outcomes)
  b__law_outcomes : Binds K d__law_outcomes ["pairs", "command"] []
  a__law_odd : Addr
  d__law_odd : FuncData
  F__law_odd : Fun K "_law_odd" "_law_odd" s__law_odd a__law_odd d__law_odd
  m__law_odd : mg "_law_odd" = some (.ref a__law_odd)
  b__law_odd : Binds K d__law_odd ["dice"] []
  a__law_met : Addr
  d__law_met : FuncData
  F__law_met : Fun K "_law_met" "_law_met" s__law_met a__law_met d__law_met
  m__law_met : mg "_law_met" = some (.ref a__law_met)
  b__law_met : Binds K d__law_met ["call"] []
  a__law_told : Addr
  d__law_told : FuncData
  F__law_told : Fun K "_law_told" "_law_told" s__law_told a__law_told d__law_told
  m__law_told : mg "_law_told" = some (.ref a__law_told)
  b__law_told : Binds K d__law_told ["book"] []
  a__law_is_right : Addr
  d__law_is_right : FuncData
  F__law_is_right : Fun K "_law_is_right" "_law_is_right" s__law_is_right a__law_is_right d__law_is_right
  m__law_is_right : mg "_law_is_right" = some (.ref a__law_is_right)
  b__law_is_right : Binds K d__law_is_right ["book", "pairs"] []
  a__law_stranger : Addr
  d__law_stranger : FuncData
  F__law_stranger : Fun K "_law_stranger" "_law_stranger" s__law_stranger a__law_stranger d__law_stranger
  m__law_stranger : mg "_law_stranger" = some (.ref a__law_stranger)
  b__law_stranger : Binds K d__law_stranger ["book", "odd", "pairs"] []
  co__law_stranger : Addr
  tb__law_stranger : Addr
  l__law_stranger : ∃ kV doc pm an ct, d__law_stranger = PySem.W.fnOf "_law_stranger" "_law_stranger" (defArgs s__law_stranger) (defBody s__law_stranger) (defScope s__law_stranger) .none kV doc pm an (.ref co__law_stranger) ct
  a__law_second : Addr
  d__law_second : FuncData
  F__law_second : Fun K "_law_second" "_law_second" s__law_second a__law_second d__law_second
  m__law_second : mg "_law_second" = some (.ref a__law_second)
  b__law_second : Binds K d__law_second ["dice", "pairs"] []
  a__law_both_right : Addr
  d__law_both_right : FuncData
  F__law_both_right : Fun K "_law_both_right" "_law_both_right" s__law_both_right a__law_both_right d__law_both_right
  m__law_both_right : mg "_law_both_right" = some (.ref a__law_both_right)
  b__law_both_right : Binds K d__law_both_right ["dice", "one", "two", "pairs", "more"] []
  co__law_both_right : Addr
  tb__law_both_right : Addr
  l__law_both_right : ∃ kV doc pm an ct, d__law_both_right = PySem.W.fnOf "_law_both_right" "_law_both_right" (defArgs s__law_both_right) (defBody s__law_both_right) (defScope s__law_both_right) .none kV doc pm an (.ref co__law_both_right) ct
  a__law_right : Addr
  d__law_right : FuncData
  F__law_right : Fun K "_law_right" "_law_right" s__law_right a__law_right d__law_right
  m__law_right : mg "_law_right" = some (.ref a__law_right)
  b__law_right : Binds K d__law_right ["dice"] []
  co__law_right : Addr
  tb__law_right : Addr
  l__law_right : ∃ kV doc pm an ct, d__law_right = PySem.W.fnOf "_law_right" "_law_right" (defArgs s__law_right) (defBody s__law_right) (defScope s__law_right) .none kV doc pm an (.ref co__law_right) ct
  a_law : Addr
  d_law : FuncData
  F_law : Fun K "law" "law" s_law a_law d_law
  m_law : mg "law" = some (.ref a_law)
  b_law : Binds K d_law ["script"] []
  a_Book___init__ : Addr
  d_Book___init__ : FuncData
  F_Book___init__ : Fun K "__init__" "Book.__init__" s_Book___init__ a_Book___init__ d_Book___init__
  a_Book_of : Addr
  d_Book_of : FuncData
  F_Book_of : Fun K "of" "Book.of" s_Book_of a_Book_of d_Book_of
  b_Book_of : Binds K d_Book_of ["cls", "commands"] []
  a_Book_commands : Addr
  d_Book_commands : FuncData
  F_Book_commands : Fun K "commands" "Book.commands" s_Book_commands a_Book_commands d_Book_commands
  b_Book_commands : Binds K d_Book_commands ["self"] []
  a_Book_takes : Addr
  d_Book_takes : FuncData
  F_Book_takes : Fun K "takes" "Book.takes" s_Book_takes a_Book_takes d_Book_takes
  b_Book_takes : Binds K d_Book_takes ["self", "command"] []
  a_Book_answers : Addr
  d_Book_answers : FuncData
  F_Book_answers : Fun K "answers" "Book.answers" s_Book_answers a_Book_answers d_Book_answers
  b_Book_answers : Binds K d_Book_answers ["self", "command"] []
  a_Book_outcomes : Addr
  d_Book_outcomes : FuncData
  F_Book_outcomes : Fun K "outcomes" "Book.outcomes" s_Book_outcomes a_Book_outcomes d_Book_outcomes
  b_Book_outcomes : Binds K d_Book_outcomes ["self", "command"] []
  a_Book_without : Addr
  d_Book_without : FuncData
  F_Book_without : Fun K "without" "Book.without" s_Book_without a_Book_without d_Book_without
  b_Book_without : Binds K d_Book_without ["self", "command"] []
  a_Book_is_within : Addr
  d_Book_is_within : FuncData
  F_Book_is_within : Fun K "is_within" "Book.is_within" s_Book_is_within a_Book_is_within d_Book_is_within
  b_Book_is_within : Binds K d_Book_is_within ["self", "other"] []
  a_Book___or__ : Addr
  d_Book___or__ : FuncData
  F_Book___or__ : Fun K "__or__" "Book.__or__" s_Book___or__ a_Book___or__ d_Book___or__
  b_Book___or__ : Binds K d_Book___or__ ["self", "other"] []
  a_Book___getitem__ : Addr
  d_Book___getitem__ : FuncData
  F_Book___getitem__ : Fun K "__getitem__" "Book.__getitem__" s_Book___getitem__ a_Book___getitem__ d_Book___getitem__
  b_Book___getitem__ : Binds K d_Book___getitem__ ["self", "command"] []
  a_Book___contains__ : Addr
  d_Book___contains__ : FuncData
  F_Book___contains__ : Fun K "__contains__" "Book.__contains__" s_Book___contains__ a_Book___contains__ d_Book___contains__
  b_Book___contains__ : Binds K d_Book___contains__ ["self", "value"] []
  a_Book___len__ : Addr
  d_Book___len__ : FuncData
  F_Book___len__ : Fun K "__len__" "Book.__len__" s_Book___len__ a_Book___len__ d_Book___len__
  b_Book___len__ : Binds K d_Book___len__ ["self"] []
  a_Book___eq__ : Addr
  d_Book___eq__ : FuncData
  F_Book___eq__ : Fun K "__eq__" "Book.__eq__" s_Book___eq__ a_Book___eq__ d_Book___eq__
  b_Book___eq__ : Binds K d_Book___eq__ ["self", "other"] []
  a_Book___str__ : Addr
  d_Book___str__ : FuncData
  F_Book___str__ : Fun K "__str__" "Book.__str__" s_Book___str__ a_Book___str__ d_Book___str__
  b_Book___str__ : Binds K d_Book___str__ ["self"] []
  c_Book : Addr
  m_Book : mg "Book" = some (.ref c_Book)
  o_Book : OwnC K c_Book (.type "type")
  n_Book__pairs : NoAttr K c_Book "_pairs"
  n_Book__outcomes : NoAttr K c_Book "_outcomes"
  N_Book : DunNe K c_Book
  B_Book___or__ : BinB K c_Book "or"
  k_Book : Mk K c_Book a_Book___init__
  p_Book_of : Addr
  P_Book_of : ClX.CMet K c_Book (.type "type") "of" p_Book_of a_Book_of
  p_Book_commands : Addr
  P_Book_commands : PropOf K c_Book "commands" p_Book_commands a_Book_commands
  M_Book_takes : Meth K c_Book "takes" a_Book_takes
  M_Book_answers : Meth K c_Book "answers" a_Book_answers
  M_Book_outcomes : Meth K c_Book "outcomes" a_Book_outcomes
  M_Book_without : Meth K c_Book "without" a_Book_without
  M_Book_is_within : Meth K c_Book "is_within" a_Book_is_within
  D_Book___or__ : Dun K c_Book "__or__" a_Book___or__
  D_Book___getitem__ : Dun K c_Book "__getitem__" a_Book___getitem__
  D_Book___contains__ : Dun K c_Book "__contains__" a_Book___contains__
  D_Book___len__ : Dun K c_Book "__len__" a_Book___len__
  D_Book___eq__ : Dun K c_Book "__eq__" a_Book___eq__
  D_Book___str__ : Dun K c_Book "__str__" a_Book___str__
  z_abs : mg "abs" = none
  z_all : mg "all" = none
  z_any : mg "any" = none
  z_dict : mg "dict" = none
  z_int : mg "int" = none
  z_isinstance : mg "isinstance" = none
  z_len : mg "len" = none
  z_list : mg "list" = none
  z_max : mg "max" = none
  z_min : mg "min" = none
  z_range : mg "range" = none
  z_repr : mg "repr" = none
  z_sorted : mg "sorted" = none
  z_str : mg "str" = none
  z_tuple : mg "tuple" = none
  z_type : mg "type" = none
  c_AheadError : Addr
  e_AheadError : Own0 K mg "AheadError" c_AheadError "ValueError.__new__" tlVE
  c_InvalidBook : Addr
  e_InvalidBook : Own0 K mg "InvalidBook" c_InvalidBook "ValueError.__new__" tlVE
  c_InvalidOperation : Addr
  e_InvalidOperation : Own0 K mg "InvalidOperation" c_InvalidOperation "ValueError.__new__" tlVE
  c_UnknownName : Addr
  i_UnknownName : Addr
  d_UnknownName : FuncData
  e_UnknownName : Own1 prog0 K mg "UnknownName" c_UnknownName i_UnknownName d_UnknownName "KeyError" "LookupError.__new__" "KeyError.__init__" tlKE "UnknownName.__init__" "self" "name" "name" s_UnknownName_init
  tabC : isTab K [c_AheadError, c_InvalidBook, c_InvalidOperation, c_UnknownName] [.ref c_AheadError, .ref c_InvalidBook, .ref c_InvalidOperation, .ref c_UnknownName] = [[some true, some false, some false, some false], [some true, some true, some false, some false], [some true, some false, some true, some false], [some false, some false, some false, some true]]
  tabE : exTab K [c_AheadError, c_InvalidBook, c_InvalidOperation, c_UnknownName] = [[some true, some false, some false, some false], [some true, some true, some false, some false], [some true, some false, some true, some false], [some false, some false, some false, some true]]
  tabB : isTab K [c_AheadError, c_InvalidBook, c_InvalidOperation, c_UnknownName] [.type "ValueError", .type "KeyError"] = [[some true, some false], [some true, some false], [some true, some false], [some false, some true]]
  n__law_both_right__law_stranger : tb__law_both_right ≠ tb__law_stranger
  n__law_right__law_stranger : tb__law_right ≠ tb__law_stranger
  n__law_right__law_both_right : tb__law_right ≠ tb__law_both_right
  t_MAX_LETTERS : Tok
  m_MAX_LETTERS : mg "MAX_LETTERS" = some (.int 8 t_MAX_LETTERS)
  a_RESERVED : Addr
  m_RESERVED : mg "RESERVED" = some (.ref a_RESERVED)
  q_RESERVED : ∀ H, SqT K H a_RESERVED [.str "failed", .str "kept", .str "skipped", .str "undone"]
  t_MAX_COMMANDS : Tok
  m_MAX_COMMANDS : mg "MAX_COMMANDS" = some (.int 6 t_MAX_COMMANDS)
  t_MAX_TAKES : Tok
  m_MAX_TAKES : mg "MAX_TAKES" = some (.int 2 t_MAX_TAKES)
  t_MAX_ANSWERS : Tok
  m_MAX_ANSWERS : mg "MAX_ANSWERS" = some (.int 3 t_MAX_ANSWERS)
theorem Txt.r_MAX_LETTERS {K : PySem.W.Frag} {mg : Str → Option Value} (T : Txt K mg) : RelV (.int 8) (.int 8 T.t_MAX_LETTERS) := ⟨_, rfl⟩
theorem Txt.r_RESERVED {K : PySem.W.Frag} {mg : Str → Option Value} (T : Txt K mg) : RelV (.ref T.a_RESERVED) (.ref T.a_RESERVED) := rfl
theorem Txt.r_MAX_COMMANDS {K : PySem.W.Frag} {mg : Str → Option Value} (T : Txt K mg) : RelV (.int 6) (.int 6 T.t_MAX_COMMANDS) := ⟨_, rfl⟩
theorem Txt.r_MAX_TAKES {K : PySem.W.Frag} {mg : Str → Option Value} (T : Txt K mg) : RelV (.int 2) (.int 2 T.t_MAX_TAKES) := ⟨_, rfl⟩
theorem Txt.r_MAX_ANSWERS {K : PySem.W.Frag} {mg : Str → Option Value} (T : Txt K mg) : RelV (.int 3) (.int 3 T.t_MAX_ANSWERS) := ⟨_, rfl⟩
def Txt.tabs {K : PySem.W.Frag} {mg : Str → Option Value} (T : Txt K mg) : List (Addr × Str) := [(T.tb__law_stranger, ((("_law_stranger" : Str) ++ ".<locals>.") ++ "<lambda>")), (T.tb__law_both_right, ((("_law_both_right" : Str) ++ ".<locals>.") ++ "<lambda>")), (T.tb__law_right, ((("_law_right" : Str) ++ ".<locals>.") ++ "<lambda>"))]
def Txt.cot {K : PySem.W.Frag} {mg : Str → Option Value} (T : Txt K mg) : List (Addr × Addr) := [(T.co__law_stranger, T.tb__law_stranger), (T.co__law_both_right, T.tb__law_both_right), (T.co__law_right, T.tb__law_right)]
theorem Txt.hin__law_stranger {K : PySem.W.Frag} {mg : Str → Option Value} (T : Txt K mg) : (T.tb__law_stranger, ((("_law_stranger" : Str) ++ ".<locals>.") ++ "<lambda>")) ∈ T.tabs := by
  unfold Txt.tabs
  simp
theorem Txt.hun__law_stranger {K : PySem.W.Frag} {mg : Str → Option Value} (T : Txt K mg) : ∀ p ∈ T.tabs, p.1 = T.tb__law_stranger → p.2 = ((("_law_stranger" : Str) ++ ".<locals>.") ++ "<lambda>") := by
  intro p hp e
  unfold Txt.tabs at hp
  simp only [List.mem_cons, List.not_mem_nil, or_false] at hp
  rcases hp with rfl | rfl | rfl
  · rfl
  · exact absurd e T.n__law_both_right__law_stranger
  · exact absurd e T.n__law_right__law_stranger
theorem Txt.hin__law_both_right {K : PySem.W.Frag} {mg : Str → Option Value} (T : Txt K mg) : (T.tb__law_both_right, ((("_law_both_right" : Str) ++ ".<locals>.") ++ "<lambda>")) ∈ T.tabs := by
  unfold Txt.tabs
  simp
theorem Txt.hun__law_both_right {K : PySem.W.Frag} {mg : Str → Option Value} (T : Txt K mg) : ∀ p ∈ T.tabs, p.1 = T.tb__law_both_right → p.2 = ((("_law_both_right" : Str) ++ ".<locals>.") ++ "<lambda>") := by
  intro p hp e
  unfold Txt.tabs at hp
  simp only [List.mem_cons, List.not_mem_nil, or_false] at hp
  rcases hp with rfl | rfl | rfl
  · exact absurd e (fun z => T.n__law_both_right__law_stranger z.symm)
  · rfl
  · exact absurd e T.n__law_right__law_both_right
theorem Txt.hin__law_right {K : PySem.W.Frag} {mg : Str → Option Value} (T : Txt K mg) : (T.tb__law_right, ((("_law_right" : Str) ++ ".<locals>.") ++ "<lambda>")) ∈ T.tabs := by
  unfold Txt.tabs
  simp
theorem Txt.hun__law_right {K : PySem.W.Frag} {mg : Str → Option Value} (T : Txt K mg) : ∀ p ∈ T.tabs, p.1 = T.tb__law_right → p.2 = ((("_law_right" : Str) ++ ".<locals>.") ++ "<lambda>") := by
  intro p hp e
  unfold Txt.tabs at hp
  simp only [List.mem_cons, List.not_mem_nil, or_false] at hp
  rcases hp with rfl | rfl | rfl
  · exact absurd e (fun z => T.n__law_right__law_stranger z.symm)
  · exact absurd e (fun z => T.n__law_right__law_both_right z.symm)
  · rfl
/-! ### names, in plain terms -/
def small (c : Nat) : Bool := decide (97 ≤ c) && decide (c ≤ 122)
def nameB (s : Str) : Bool := decide (1 ≤ s.length) && decide (s.length ≤ 8) && s.cps.toList.all small
def reserved : List Str := ["failed", "kept", "skipped", "undone"]
def answerB (s : Str) : Bool := nameB s && !(reserved.contains s)
section
variable {P : Program} {w : World} {K : PySem.W.Frag} {mg : Str → Option Value} {base : Heap}
/-- told of a value: for a text f, for another value no -/
def sp_told (K : PySem.W.Frag) (f : Str → Bool) : Sp := fun vs H Q _ => ∃ x : V, vs = [x] ∧ ((∃ s, x = .str s ∧ Txt1 s ∧ ∀ H', Same H H' → Q (.bl (f s)) H') ∨ (NotStr K H x ∧ ∀ H', Same H H' → Q (.bl false) H'))
abbrev sp_is_name (K : PySem.W.Frag) : Sp := sp_told K nameB
theorem txt_len {s : Str} (h : Txt1 s) : s.length ≤ sizeLine := by
  have := h.1
  rw [sizeLine_eq]
  omega
theorem ok_is_name (T : Txt K mg) : FnG P w K mg base CX0 1 T.a_is_name T.d_is_name ["value"] (sp_is_name K) := by
  refine okG T.F_is_name sc_is_name (fun vs H Q E h => ?_) (fun cdv A fs s H vs Q E hr h => ?_)
  · obtain ⟨x, rfl, _⟩ := h
    rfl
  obtain ⟨x, rfl, k⟩ := h
  have nd := sc_is_name.nd
  refine ⟨_, ((pss_cons (ps_if (PW.pt (pw_or (pt_not (pt_val (pe_callB call_isi (by rfl) T.z_isinstance (by decide +kernel) (pa_cons (pv 0) (pa_cons (pe_tyV (n := "str") (by rfl) T.z_str (by decide +kernel)) pa_nil))))) (pw_or1 (pt_not (pt_chain op_le op_le pe_int (pe_callB c_len (by rfl) T.z_len (by decide +kernel) (pa_cons (pv 0) pa_nil)) (pe_glob rfl T.m_MAX_LETTERS T.r_MAX_LETTERS)))))) (pss_one (ps_ret pe_bl)) pss_nil)
  (pss_one (ps_ret (pe_and (pe_m0 PySem.F.slot_str_isascii PySem.F.type_str_isascii mt_isascii (pv 0)) (pe_and (pe_m0 PySem.F.slot_str_isalpha PySem.F.type_str_isalpha mt_isalpha (pv 0)) (pe_one (pe_m0 PySem.F.slot_str_islower PySem.F.type_str_islower mt_islower (pv 0))))))))), ?_⟩
  walk_at "s"
  rcases k with ⟨z, rfl, hz, k⟩ | ⟨hn, k⟩
  · refine l_isStr ?_
    have hl := txt_len hz
    have h4 := hz.1
    walk_at "s"
    refine i_f rfl ?_
    walk_at "s"
    refine i_dec (fun c1 => ?_) (fun c1 => ?_)
    · walk_at "s"
      refine i_b (fun c2 => ?_) (fun c2 => ?_)
      · have n8 : ¬ ((z.length : Int) ≤ 8) := by simpa using c2
        walk_at "s"
        have e : nameB z = false := by
          unfold nameB
          rw [decide_eq_false (show ¬ z.length ≤ 8 by omega), Bool.and_false, Bool.false_and]
        have q := k H (Same.refl H)
        rw [e] at q
        exact q
      · have n8 : ((z.length : Int) ≤ 8) := by simpa using c2
        have e : nameB z = z.cps.toList.all small := by
          unfold nameB
          rw [decide_eq_true (show 1 ≤ z.length by omega), decide_eq_true (show z.length ≤ 8 by omega), Bool.true_and, Bool.true_and]
        have e2 : (Txt.isalpha z && Txt.islower z) = z.cps.toList.all small := small_told hz.2 (by omega)
        have q := k H (Same.refl H)
        rw [e, ← e2] at q
        walk_at "s"
        refine i_t (isascii_of hz.2) ?_
        walk_at "s"
        refine i_b (fun a1 => ?_) (fun a1 => ?_)
        · rw [a1, Bool.true_and] at q
          walk_at "s"
          exact q
        · rw [a1, Bool.false_and] at q
          exact q
    · walk_at "s"
      refine i_t rfl ?_
      walk_at "s"
      have e : nameB z = false := by
        unfold nameB
        rw [decide_eq_false (show ¬ 1 ≤ z.length by omega), Bool.false_and, Bool.false_and]
      have q := k H (Same.refl H)
      rw [e] at q
      exact q
  · refine l_notStr hn ?_
    walk_at "s"
    refine i_t rfl ?_
    walk_at "s"
    exact k H (Same.refl H)
end
section
variable {P : Program} {w : World} {K : PySem.W.Frag} {mg : Str → Option Value} {base : Heap}
def answerB1 (s : Str) : Bool := nameB s && !(reserved.any fun y => y == s)
theorem in_reserved (s : Str) : inV (.str s) (reserved.map V.str) = reserved.any fun y => y == s := by
  unfold inV
  rw [List.any_map]
  rfl
theorem all_flat (l : List Str) : (l.map V.str).all flatV = true := by
  rw [List.all_map, List.all_eq_true]
  intro _ _
  rfl
theorem l_ninR {p : Addr} {s : Str} {H : Hp} {Q : VK} (h : SqT K H p (reserved.map V.str)) (q : Q (.bl (!(reserved.any fun y => y == s))) H) : rIn K true (.str s) (.ref p) H Q :=
  ⟨p, _, rfl, Or.inr h, rfl, all_flat _, by rw [if_pos rfl, in_reserved]; exact q⟩
theorem ok_is_answer (T : Txt K mg) : FnG P w K mg base CX0 2 T.a_is_answer T.d_is_answer ["value"] (sp_told K answerB1) := by
  have G_is_name : FnG P w K mg base CX0 1 T.a_is_name T.d_is_name ["value"] (sp_is_name K) := ok_is_name T
  refine okG T.F_is_answer sc_is_answer (fun vs H Q E h => ?_) (fun cdv A fs s H vs Q E hr h => ?_)
  · obtain ⟨x, rfl, _⟩ := h
    rfl
  obtain ⟨x, rfl, k⟩ := h
  have nd := sc_is_answer.nd
  refine ⟨_, ((pss_one (ps_ret (pe_and (pe_callG G_is_name (hr.down (by decide)) rfl T.m_is_name T.F_is_name.kp T.b_is_name .nil pass0 (pa_cons (pv 0) pa_nil)) (pe_one (pe_cmpR (show OpR _ _ (rIn K true) from op_notIn_seq) (pv 0) (pe_glob rfl T.m_RESERVED T.r_RESERVED) (by rfl))))))), ?_⟩
  walk_at "s"
  rcases k with ⟨z, rfl, hz, k⟩ | ⟨hn, k⟩
  · refine ⟨_, rfl, Or.inl ⟨z, rfl, hz, fun G sg => ?_⟩⟩
    refine l_bl (i_b (fun e => ?_) (fun e => ?_))
    · walk_at "s"
      refine l_ninR (T.q_RESERVED G) ?_
      have q := k G sg
      unfold answerB1 at q
      rw [e, Bool.true_and] at q
      exact q
    · have q := k G sg
      unfold answerB1 at q
      rw [e, Bool.false_and] at q
      exact q
  · exact ⟨_, rfl, Or.inr ⟨hn, fun G sg => l_bl (i_f rfl (k G sg))⟩⟩

end
/-! ### rows of names, pairs -/
def namesFrom : Str → List V → Bool
  | _, [] => true
  | last, .str s :: r => nameB s && (decide (ltS last s) && namesFrom s r)
  | _, _ :: _ => false
section
variable {P : Program} {w : World} {K : PySem.W.Frag} {mg : Str → Option Value} {base : Heap}
/-- a tuple of what are texts or no texts -/
def sp_is_names (K : PySem.W.Frag) : Sp := fun vs H Q _ => ∃ (a : Addr) (xs : List V), vs = [.ref a] ∧ H a = some (.tup xs) ∧ (∀ x ∈ xs, (∃ s, x = .str s ∧ Txt1 s) ∨ NotStr K H x) ∧ ∀ H', Same H H' → Q (.bl (namesFrom "" xs)) H'
theorem ok_is_names (T : Txt K mg) : FnG P w K mg base CX0 2 T.a_is_names T.d_is_names ["value"] (sp_is_names K) := by
  have G_is_name : FnG P w K mg base CX0 1 T.a_is_name T.d_is_name ["value"] (sp_is_name K) := ok_is_name T
  refine okG T.F_is_names sc_is_names (fun vs H Q E h => ?_) (fun cdv A fs s H vs Q E hr h => ?_)
  · obtain ⟨a, xs, rfl, _⟩ := h
    rfl
  obtain ⟨a, xs, rfl, ea, hx, k⟩ := h
  have nd := sc_is_names.nd
  have HP := @PassesOwn.never
  refine ⟨_, ((pss_cons (ps_if (pt_not (pt_val (pe_callB call_isi (by rfl) T.z_isinstance (by decide +kernel) (pa_cons (pv 0) (pa_cons (pe_tyV (n := "tuple") (by rfl) T.z_tuple (by decide +kernel)) pa_nil))))) (pss_one (ps_ret pe_bl)) pss_nil)
  (pss_cons (ps_set (i := 1) nd rfl (Or.inl rfl) pe_str)
  (pss_cons (ps_for HP rfl (pi_tup (pv 0)) (pg_name (i := 2) nd rfl (Or.inl rfl)) (pss_cons (ps_if (PW.pt (pw_or (pt_not (pt_val (pe_callG G_is_name (hr.down (by decide)) rfl T.m_is_name T.F_is_name.kp T.b_is_name .nil pass0 (pa_cons (pv 2) pa_nil)))) (pw_or1 (pt_cmpR o_leS (pv 2) (pv 1) (nomark _))))) (pss_one (ps_ret pe_bl)) pss_nil)
  (pss_one (ps_set (i := 1) nd rfl (Or.inl rfl) (pv 2)))))
  (pss_one (ps_ret pe_bl)))))), ?_⟩
  walk_at "s"
  refine l_isTup ea ?_
  walk_at "s"
  refine i_f rfl ?_
  walk_at "s"
  refine l_forT (tup_at ea) (fun i τ G => Same H G ∧ ∃ last z, τ = [some (.ref a), some (.str last), z] ∧ namesFrom last (xs.drop i) = namesFrom "" xs) ⟨Same.refl H, "", none, rfl, rfl⟩ (fun i τ G _ p => sqt_same p.1 (tup_at ea)) (fun i x τ G hi p => ?_) (fun τ G p => ?_)
  · obtain ⟨sg, last, z, rfl, e⟩ := p
    have hd : xs.drop i = x :: xs.drop (i + 1) := by
      obtain ⟨h1, h2⟩ := List.getElem?_eq_some_iff.mp hi
      rw [← h2]
      exact List.drop_eq_getElem_cons h1
    rw [hd] at e
    walk_at "s"
    rcases hx x (List.mem_of_getElem? hi) with ⟨s, rfl, hs⟩ | ns
    · refine ⟨_, rfl, Or.inl ⟨s, rfl, hs, fun J sj => ?_⟩⟩
      refine l_bl ?_
      have e : (nameB s && (decide (ltS last s) && namesFrom s (xs.drop (i + 1)))) = namesFrom "" xs := e
      cases hn : nameB s with
      | false =>
        rw [hn] at e
        refine i_t rfl ?_
        walk_at "s"
        have q := k J (sg.trans sj)
        rw [← e] at q
        exact q
      | true =>
        rw [hn, Bool.true_and] at e
        refine i_f rfl ?_
        walk_at "s"
        rw [dec_lt]
        cases hl : decide (ltS last s) with
        | false =>
          rw [hl] at e
          refine i_t rfl ?_
          walk_at "s"
          have q := k J (sg.trans sj)
          rw [← e] at q
          exact q
        | true =>
          rw [hl, Bool.true_and] at e
          refine i_f rfl ?_
          walk_at "s"
          exact ⟨sg.trans sj, s, _, rfl, e⟩
    · refine ⟨_, rfl, Or.inr ⟨NotStr.same sg ns, fun J sj => ?_⟩⟩
      refine l_bl (i_t rfl ?_)
      walk_at "s"
      have e2 : namesFrom last (x :: xs.drop (i + 1)) = false := by
        cases x with
        | str s =>
          exact ns.no.elim
        | _ => rfl
      have q := k J (sg.trans sj)
      rw [← e, e2] at q
      exact q
  · obtain ⟨sg, last, z, rfl, e⟩ := p
    rw [List.drop_length] at e
    have q := k G sg
    rw [← e] at q
    walk_at "s"
    exact q
end
section
variable {P : Program} {w : World} {K : PySem.W.Frag} {mg : Str → Option Value} {base : Heap}
/-- an int that counts -/
def sp_count : Sp := fun vs H Q _ => ∃ i : Int, vs = [.int i] ∧ Q (.bl (decide (0 ≤ i))) H
theorem ok_is_count (T : Txt K mg) : FnG P w K mg base CX0 1 T.a_is_count T.d_is_count ["value"] sp_count := by
  refine okG T.F_is_count sc_is_count (fun vs H Q E h => ?_) (fun cdv A fs s H vs Q E hr h => ?_)
  · obtain ⟨i, rfl, _⟩ := h
    rfl
  obtain ⟨i, rfl, k⟩ := h
  have nd := sc_is_count.nd
  refine ⟨_, ((pss_one (ps_ret (pe_and (pe_cmpR op_isT (pe_callTy call_type1 (by rfl) T.z_type (by decide +kernel) (pa_cons (pv 0) pa_nil)) (pe_tyV (n := "int") (by rfl) T.z_int (by decide +kernel)) (nomark _)) (pe_one (pe_cmpR op_ge (pv 0) pe_int (nomark _))))))), ?_⟩
  walk_at "s"
  refine l_typ (.int i) ?_
  walk_at "s"
  refine l_isT (l_bl (i_t rfl ?_))
  walk_at "s"
  exact k
/-- what a command takes, and its answers -/
def GoodP (t : Nat) (as : List Str) : Prop := t ≤ 2 ∧ Asc as ∧ 1 ≤ as.length ∧ as.length ≤ 3 ∧ ∀ s ∈ as, answerB1 s = true
def PairV (H : Hp) (v : V) (t : Nat) (as : List Str) : Prop := ∃ pr an, v = .ref pr ∧ H pr = some (.tup [.int t, .ref an]) ∧ H an = some (.tup (as.map V.str))
theorem name_txt {s : Str} (h : nameB s = true) : Txt1 s := by
  unfold nameB at h
  simp only [Bool.and_eq_true, decide_eq_true_eq, List.all_eq_true] at h
  refine ⟨by omega, fun c hc => ?_⟩
  have := h.2 c hc
  unfold small at this
  simp only [Bool.and_eq_true, decide_eq_true_eq] at this
  omega
theorem answer_name {s : Str} (h : answerB1 s = true) : nameB s = true := by
  unfold answerB1 at h
  rw [Bool.and_eq_true] at h
  exact h.1
theorem answer_free {s : Str} (h : answerB1 s = true) : s ∉ reserved := fun m => by
  unfold answerB1 at h
  rw [Bool.and_eq_true, Bool.not_eq_true', List.any_eq_false] at h
  exact h.2 s m (beq_self_eq_true s)
theorem names_asc : ∀ {l : List Str} {p : Str}, (∀ s ∈ l, nameB s = true) → Asc (p :: l) → namesFrom p (l.map V.str) = true
  | [], _, _, _ => rfl
  | s :: r, p, h, a => by
    have a1 := List.pairwise_cons.mp a
    show (nameB s && (decide (ltS p s) && namesFrom s (r.map V.str))) = true
    rw [h s List.mem_cons_self, decide_eq_true (a1.1 s List.mem_cons_self), names_asc (fun x hx => h x (List.mem_cons_of_mem _ hx)) a1.2]
    rfl
theorem ltS_empty {s : Str} (h : 1 ≤ s.length) : ltS "" s := by
  show ltCps [] s.cps.toList = true
  cases e : s.cps.toList with
  | nil =>
    have l : s.cps.toList.length = 0 := by rw [e]; rfl
    rw [Array.length_toList] at l
    have h : 1 ≤ s.cps.size := h
    omega
  | cons a r => rfl
theorem names_ok {l : List Str} (h : ∀ s ∈ l, nameB s = true) (a : Asc l) : namesFrom "" (l.map V.str) = true := names_asc h (List.pairwise_cons.mpr ⟨fun s hs => ltS_empty (by
  have := h s hs
  unfold nameB at this
  simp only [Bool.and_eq_true, decide_eq_true_eq] at this
  omega), a⟩)
theorem at0 {a b : V} : atI [a, b] 0 = some a := rfl
theorem at1 {a b : V} : atI [a, b] 1 = some b := rfl
def sp_pair : Sp := fun vs H Q _ => ∃ (v : V) (t : Nat) (as : List Str), vs = [v] ∧ PairV H v t as ∧ GoodP t as ∧ ∀ H', Same H H' → Q (.bl true) H'
theorem ok_is_pair (T : Txt K mg) : FnG P w K mg base CX0 3 T.a_is_pair T.d_is_pair ["value"] sp_pair := by
  have G_is_count : FnG P w K mg base CX0 1 T.a_is_count T.d_is_count ["value"] sp_count := ok_is_count T
  have G_is_names : FnG P w K mg base CX0 2 T.a_is_names T.d_is_names ["value"] (sp_is_names K) := ok_is_names T
  refine okG T.F_is_pair sc_is_pair (fun vs H Q E h => ?_) (fun cdv A fs s H vs Q E hr h => ?_)
  · obtain ⟨v, t, as, rfl, _⟩ := h
    rfl
  obtain ⟨v, t, as, rfl, ⟨pr, an, rfl, e1, e2⟩, ⟨g1, g2, g3, g4, g5⟩, k⟩ := h
  have nd := sc_is_pair.nd
  refine ⟨_, ((pss_cons (ps_if (PW.pt (pw_or (pt_not (pt_val (pe_callB call_isi (by rfl) T.z_isinstance (by decide +kernel) (pa_cons (pv 0) (pa_cons (pe_tyV (n := "tuple") (by rfl) T.z_tuple (by decide +kernel)) pa_nil))))) (pw_or1 (pt_cmpR op_ne (pe_callB c_len (by rfl) T.z_len (by decide +kernel) (pa_cons (pv 0) pa_nil)) pe_int (nomark _))))) (pss_one (ps_ret pe_bl)) pss_nil)
  (pss_cons (ps_asg (pv 0) (pg_tup (by rfl) (pgs_cons (pg_name (i := 1) nd rfl (Or.inl rfl)) (pgs_cons (pg_name (i := 2) nd rfl (Or.inl rfl)) pgs_nil))))
  (pss_cons (ps_if (PW.pt (pw_or (pt_not (pt_val (pe_callG G_is_count (hr.down (by decide)) rfl T.m_is_count T.F_is_count.kp T.b_is_count .nil pass0 (pa_cons (pv 1) pa_nil)))) (pw_or1 (pt_cmpR op_gt (pv 1) (pe_glob rfl T.m_MAX_TAKES T.r_MAX_TAKES) (nomark _))))) (pss_one (ps_ret pe_bl)) pss_nil)
  (pss_cons (ps_if (PW.pt (pw_or (pt_not (pt_val (pe_callG G_is_names (hr.down (by decide)) rfl T.m_is_names T.F_is_names.kp T.b_is_names .nil pass0 (pa_cons (pv 2) pa_nil)))) (pw_or1 (pt_not (pt_chain op_le op_le pe_int (pe_callB c_len (by rfl) T.z_len (by decide +kernel) (pa_cons (pv 2) pa_nil)) (pe_glob rfl T.m_MAX_ANSWERS T.r_MAX_ANSWERS)))))) (pss_one (ps_ret pe_bl)) pss_nil)
  (pss_one (ps_ret (pe_not (pe_callB (cr_any rfl) (by rfl) T.z_any (by decide +kernel) (pa_cons (pe_lc (own := [("name", 3)]) rfl nd (pi_tup (pv 2)) (blkOk_by (own := [("name", 3)]) (N := ["value", "takes", "answers", "name"]) (sc := defScope s_is_pair) (by decide +kernel)) (fun _ _ _ _ _ => pg_name (i := 3) nd rfl (Or.inl rfl)) (fun _ _ _ _ _ => pts_nil) (fun _ _ _ _ _ => by exact (pe_cmpR (show OpR _ _ (rIn K false) from op_in_seq) (pv 3) (pe_glob rfl T.m_RESERVED T.r_RESERVED) (by rfl)))) pa_nil)))))))))), ?_⟩
  walk_at "s"
  refine l_isTup e1 ?_
  walk_at "s"
  refine i_f rfl ?_
  walk_at "s"
  refine l_lenT (tup_at e1) ?_
  walk_at "s"
  refine i_f rfl ?_
  walk_at "s"
  refine l_gtup (tup_at e1) rfl ?_
  walk_at "s"
  refine ⟨_, rfl, ?_⟩
  walk_at "s"
  refine i_f (by rw [decide_eq_true (show (0 : Int) ≤ (t : Int) by omega)]; rfl) ?_
  walk_at "s"
  refine i_f (decide_eq_false (by omega)) ?_
  walk_at "s"
  refine ⟨an, _, rfl, e2, fun x hx => ?_, fun G sg => ?_⟩
  · obtain ⟨s, hs, rfl⟩ := List.mem_map.mp hx
    exact Or.inl ⟨s, rfl, name_txt (answer_name (g5 s hs))⟩
  have e2g := sg _ _ e2
  rw [names_ok (fun s hs => answer_name (g5 s hs)) g2]
  refine l_bl (i_f rfl ?_)
  walk_at "s"
  refine l_lenT (tup_at e2g) ?_
  rw [List.length_map]
  walk_at "s"
  refine i_t (decide_eq_true (by omega)) ?_
  walk_at "s"
  refine i_f (by rw [decide_eq_true (show ((as.length : Nat) : Int) ≤ 3 by omega)]; rfl) ?_
  walk_at "s"
  refine l_lcT (tup_at e2g) (fun _ => true) (fun _ => .bl false) (by rw [List.length_map]; omega) (fun x _ J _ R r => r J (Same.refl J)) (fun x hx _ J _ R r => ?_) (fun D J _ sj ej => ?_)
  · obtain ⟨s, hs, rfl⟩ := List.mem_map.mp hx
    refine s_op (s_var rfl (s_c (l_inR (l := reserved) (T.q_RESERVED J) ?_)))
    rw [decide_eq_false (answer_free (g5 s hs))]
    exact r J (Same.refl J)
  · have e3 : ((as.map V.str).filter fun _ => true).map (fun _ => V.bl false) = (as.map fun _ => false).map V.bl := by
      rw [List.filter_eq_self.mpr (fun _ _ => rfl), List.map_map, List.map_map]
      rfl
    rw [e3] at ej
    walk_at "s"
    refine l_any (SqL.of ej) ?_
    walk_at "s"
    have e4 : ((as.map fun _ => false).any id) = false := by
      rw [List.any_map, List.any_eq_false]
      intro _ _ z
      cases z
    rw [e4]
    exact k J (sg.trans sj)
end
/-! ### books, in plain terms -/
abbrev PB := List (Str × Nat × List Str)
def outs (as : List Str) : List Str := sortS (as ++ [("failed" : Str)])
def OutV (H : Hp) (v : V) (as : List Str) : Prop := ∃ t, v = .ref t ∧ H t = some (.tup ((outs as).map V.str))
def RowsAt (H : Hp) : List (Key × V) → PB → Prop := Paired fun kv x => kv.1 = .inr x.1 ∧ PairV H kv.2 x.2.1 x.2.2
def OutsAt (H : Hp) : List (Key × V) → PB → Prop := Paired fun kv x => kv.1 = .inr x.1 ∧ OutV H kv.2 x.2.2
/-- commands of a book in any order -/
structure RawB (b : PB) : Prop where
  nd : (b.map (·.1)).Nodup
  nm : ∀ x ∈ b, answerB1 x.1 = true
  pr : ∀ x ∈ b, GoodP x.2.1 x.2.2
  n1 : 1 ≤ b.length
  n6 : b.length ≤ 6
structure GoodB (b : PB) : Prop where
  raw : RawB b
  asc : Asc (b.map (·.1))
section
variable {H G : Hp} {v : V} {t : Nat} {as : List Str} {kvs ws : List (Key × V)} {b c : PB}
theorem pairV_bears : Bears fun H v => PairV H v t as := ⟨fun _ _ _ s ⟨pr, an, e, h1, h2⟩ => ⟨pr, an, e, s _ _ h1, s _ _ h2⟩, fun G D o o' w hD no ⟨pr, an, e, h1, h2⟩ => by
  have n1 : pr ≠ D := fun z => by
    rw [z, hD] at h1
    exact no _ (Option.some.inj h1)
  have n2 : an ≠ D := fun z => by
    rw [z, hD] at h2
    exact no _ (Option.some.inj h2)
  exact ⟨pr, an, e, by rw [upd_ne n1]; exact h1, by rw [upd_ne n2]; exact h2⟩⟩
theorem outV_bears : Bears fun H v => OutV H v as := bears_tup _
theorem RowsAt.same (s : Same H G) (r : RowsAt H kvs b) : RowsAt G kvs b := Paired.mono (fun _ _ a => ⟨a.1, pairV_bears.same _ _ _ s a.2⟩) r
theorem OutsAt.same (s : Same H G) (r : OutsAt H kvs b) : OutsAt G kvs b := Paired.mono (fun _ _ a => ⟨a.1, outV_bears.same _ _ _ s a.2⟩) r
theorem RowsAt.set {D : Addr} {o o' : HO} (hD : H D = some o) (no : ∀ xs, o ≠ .tup xs) (r : RowsAt H kvs b) : RowsAt (upd H D o') kvs b := Paired.mono (fun _ _ a => ⟨a.1, pairV_bears.set _ _ _ _ _ hD no a.2⟩) r
theorem OutsAt.set {D : Addr} {o o' : HO} (hD : H D = some o) (no : ∀ xs, o ≠ .tup xs) (r : OutsAt H kvs b) : OutsAt (upd H D o') kvs b := Paired.mono (fun _ _ a => ⟨a.1, outV_bears.set _ _ _ _ _ hD no a.2⟩) r
theorem paired_fst {α : Type} {F : Key × V → Str × α → Prop} (hF : ∀ p q, F p q → p.1 = .inr q.1) : ∀ {l : List (Key × V)} {m : List (Str × α)}, Paired F l m → l.map (·.1) = (m.map (·.1)).map .inr
  | [], [], _ => rfl
  | [], _ :: _, h => nomatch h
  | _ :: _, [], h => nomatch h
  | _ :: _, _ :: _, .cons a t => by rw [List.map_cons, List.map_cons, List.map_cons, hF _ _ a, paired_fst hF t]
theorem RowsAt.keys (r : RowsAt H kvs b) : kvs.map (·.1) = (b.map (·.1)).map .inr := paired_fst (fun _ _ a => a.1) r
theorem OutsAt.keys (r : OutsAt H kvs b) : kvs.map (·.1) = (b.map (·.1)).map .inr := paired_fst (fun _ _ a => a.1) r
theorem RowsAt.len (r : RowsAt H kvs b) : kvs.length = b.length := Paired.length r
theorem paired_find {α : Type} {F : Key × V → Str × α → Prop} (hF : ∀ p q, F p q → p.1 = .inr q.1) : ∀ {l : List (Key × V)} {m : List (Str × α)}, Paired F l m → (m.map (·.1)).Nodup → ∀ x ∈ m, ∃ p, valV l (.inr x.1) = some p.2 ∧ F p x
  | [], [], _, _, _, hx => nomatch hx
  | [], _ :: _, h, _, _, _ => nomatch h
  | _ :: _, [], h, _, _, _ => nomatch h
  | p :: l, q :: m, .cons a t, nd, x, hx => by
    obtain ⟨n1, n2⟩ := List.nodup_cons.mp (show (q.1 :: m.map (·.1)).Nodup from nd)
    rcases List.mem_cons.mp hx with rfl | hx
    · exact ⟨p, valV_pos (hF _ _ a), a⟩
    · obtain ⟨p', e, f⟩ := paired_find hF t n2 x hx
      refine ⟨p', ?_, f⟩
      have ne : ¬ p.1 = Sum.inr x.1 := fun z => n1 (by
        have e1 := (hF _ _ a).symm.trans z
        rw [Sum.inr.inj e1]
        exact List.mem_map_of_mem hx)
      have f2 : valV (p :: l) (.inr x.1) = valV l (.inr x.1) := by simp [valV, List.find?_cons, ne]
      rw [f2]
      exact e
theorem RowsAt.find (r : RowsAt H kvs b) (nd : (b.map (·.1)).Nodup) {x : Str × Nat × List Str} (hx : x ∈ b) : ∃ v, valV kvs (.inr x.1) = some v ∧ PairV H v x.2.1 x.2.2 := by
  obtain ⟨p, e, a⟩ := paired_find (fun _ _ a => a.1) r nd x hx
  exact ⟨p.2, e, a.2⟩
theorem OutsAt.find (r : OutsAt H kvs b) (nd : (b.map (·.1)).Nodup) {x : Str × Nat × List Str} (hx : x ∈ b) : ∃ v, valV kvs (.inr x.1) = some v ∧ OutV H v x.2.2 := by
  obtain ⟨p, e, a⟩ := paired_find (fun _ _ a => a.1) r nd x hx
  exact ⟨p.2, e, a.2⟩
theorem RowsAt.none_ (r : RowsAt H kvs b) {n : Str} (h : n ∉ b.map (·.1)) : valV kvs (.inr n) = none := by
  cases e : valV kvs (.inr n) with
  | none => rfl
  | some v =>
    have m := valV_in e
    rw [r.keys] at m
    obtain ⟨n', h', e'⟩ := List.mem_map.mp m
    rw [Sum.inr.inj e'] at h'
    exact absurd h' h
theorem RowsAt.has (r : RowsAt H kvs b) {n : Str} (nd : (b.map (·.1)).Nodup) : (valV kvs (.inr n)).isSome = decide (n ∈ b.map (·.1)) := by
  by_cases h : n ∈ b.map (·.1)
  · obtain ⟨x, hx, rfl⟩ := List.mem_map.mp h
    obtain ⟨v, e, _⟩ := r.find nd hx
    rw [e, decide_eq_true h]
    rfl
  · rw [r.none_ h, decide_eq_false h]
    rfl
/-- rows whose values are those of a dict under these names -/
theorem rows_pick (r : RowsAt H kvs b) (nd : (b.map (·.1)).Nodup) : ∀ {c : PB} {ws : List (Key × V)}, (∀ x ∈ c, x ∈ b) → Paired (fun (k : Str) (w : Key × V) => w.1 = .inr k ∧ valV kvs (.inr k) = some w.2) (c.map (·.1)) ws → RowsAt H ws c
  | [], [], _, _ => .nil
  | [], _ :: _, _, h => nomatch h
  | _ :: _, [], _, h => nomatch h
  | x :: c, w :: ws, sub, .cons a t => by
    obtain ⟨v, e, p⟩ := r.find nd (sub x List.mem_cons_self)
    refine .cons ⟨a.1, ?_⟩ (rows_pick r nd (fun y hy => sub y (List.mem_cons_of_mem _ hy)) t)
    have e2 : some v = some w.2 := e.symm.trans a.2
    rw [← Option.some.inj e2]
    exact p
end
section
variable {P : Program} {w : World} {K : PySem.W.Frag} {mg : Str → Option Value} {base : Heap}
def sp_outcomes_in : Sp := fun vs H Q _ => ∃ (p : Addr) (kvs : List (Key × V)) (b : PB), vs = [.ref p] ∧ H p = some (.dK kvs) ∧ RowsAt H kvs b ∧ RawB b ∧ ∀ D G ws, H D = none → Same H G → OutsAt G ws b → G D = some (.dK ws) → Q (.ref D) G
theorem key_of (r : RowsAt H kvs b) {k : Key} (h : k ∈ kvs.map (·.1)) : ∃ x, x ∈ b ∧ k = .inr x.1 := by
  rw [r.keys] at h
  obtain ⟨n, hn, rfl⟩ := List.mem_map.mp h
  obtain ⟨x, hx, rfl⟩ := List.mem_map.mp hn
  exact ⟨x, hx, rfl⟩
theorem outs_ents {b : PB} {ks : List Key} {ws : List (Key × V)} (e : ks = (b.map (·.1)).map .inr) (en : Ents (fun k G v => ∀ x ∈ b, k = .inr x.1 → OutV G v x.2.2) H ks ws) : OutsAt H ws b := by
  suffices h : ∀ (c : PB) {ks : List Key} {ws : List (Key × V)}, (∀ x ∈ c, x ∈ b) → ks = (c.map (·.1)).map .inr → Ents (fun k G v => ∀ x ∈ b, k = .inr x.1 → OutV G v x.2.2) H ks ws → OutsAt H ws c from h b (fun _ z => z) e en
  intro c
  induction c with
  | nil =>
    intro ks ws _ e en
    subst e
    cases en
    exact .nil
  | cons x c ih =>
    intro ks ws sub e en
    subst e
    cases en with
    | cons a t => exact .cons ⟨a.1.symm, a.2 x (sub x List.mem_cons_self) rfl⟩ (ih (fun y hy => sub y (List.mem_cons_of_mem _ hy)) rfl t)
theorem ok_outcomes_in (T : Txt K mg) : FnG P w K mg base CX0 1 T.a_outcomes_in T.d_outcomes_in ["pairs"] sp_outcomes_in := by
  refine okG T.F_outcomes_in sc_outcomes_in (fun vs H Q E h => ?_) (fun cdv A fs s H vs Q E hr h => ?_)
  · obtain ⟨p, kvs, b, rfl, _⟩ := h
    rfl
  obtain ⟨p, kvs, b, rfl, ep, rows, raw, k⟩ := h
  have nd := sc_outcomes_in.nd
  refine ⟨_, ((pss_one (ps_ret (pe_lock (pe_dc (own := [("command", 1)]) rfl nd (pi_keys (pv 0)) (blkOk_by (own := [("command", 1)]) (N := ["pairs", "command"]) (sc := defScope s_outcomes_in) (by decide +kernel)) (fun _ _ _ _ _ => pg_name (i := 1) nd rfl (Or.inl rfl)) (fun _ _ _ _ _ => pts_nil) (fun _ _ _ _ _ => by exact (pv 1)) (fun _ _ _ _ _ => by exact (pe_callTy (show CallR _ _ (rTupleOf K) from c_tuple) (by rfl) T.z_tuple (by decide +kernel) (pa_cons (pe_callB (show CallR _ _ (rSortedT K) from call_sortedT) (by rfl) T.z_sorted (by decide +kernel) (pa_cons (pe_op (show OpR _ _ (rCatT K) from op_catT) (pe_ix (show IxR _ (rIxT K) from ix_tup) (pe_dget hr.hu (pv 0) (pv 1) (fun _ _ => rfl)) pe_int (fun _ _ => rfl)) (pe_tup (pa_cons pe_str pa_nil))) pa_nil)) pa_nil)))))))), ?_⟩
  walk_at "s"
  have nk : (kvs.map (·.1)).Nodup := by
    rw [rows.keys]
    exact List.pairwise_map.mpr (List.Pairwise.imp (fun n e => n (Sum.inr.inj e)) raw.nd)
  refine l_dcKp (fun od R r => s_var rfl r) ep nk (by have := rows.len; have := raw.n6; omega) (fun _ => true) (fun k G v => ∀ x ∈ b, k = .inr x.1 → OutV G v x.2.2) (fun k => ⟨fun G G' u s h x hx e => outV_bears.same _ _ _ s (h x hx e), fun G D o o' u hD no h x hx e => outV_bears.set _ _ _ _ _ hD no (h x hx e)⟩)
    (fun od k hk G s R r => s_yes (r G (Same.refl G))) (fun od k hk _ G s R r => s_var rfl (r G (Same.refl G))) (fun od k hk _ G s R r => ?_) (fun D G ws hD s en e => k D G ws hD s (outs_ents ?_ en) e)
  · obtain ⟨x, hx, rfl⟩ := key_of rows hk
    obtain ⟨v, ev, pr, an, rfl, h1, h2⟩ := rows.find raw.nd hx
    obtain ⟨t, as⟩ := (⟨x.2.1, x.2.2⟩ : Nat × List Str)
    have gp := raw.pr x hx
    have l1 : G pr = some (.tup [.int x.2.1, .ref an]) := lock_same s h1 (fun z => by rw [z, ep] at h1; cases h1)
    have l2 : G an = some (.tup (x.2.2.map V.str)) := lock_same s h2 (fun z => by rw [z, ep] at h2; cases h2)
    walk_at "s"
    refine ⟨p, .ref pr, rfl, ?_, ?_⟩
    · rw [← ev]
      exact dgetF (at_lock s)
    walk_at "s"
    refine l_ixT (tup_at l1) at1 ?_
    walk_at "s"
    refine l_newT (by show 1 ≤ sizeLine; decide) fun q G2 nq sq eq => ?_
    refine l_catT (ys := [V.str "failed"]) (tup_at (sq _ _ l2)) (tup_at eq) (fun z => ?_) (fun z => by cases z) ?_ fun q3 G3 n3 s3 e3 => ?_
    · have l := gp.2.2.1
      rw [List.map_eq_nil_iff.mp z] at l
      exact absurd l (by decide)
    · rw [List.length_map, sizeLine_eq]
      have := gp.2.2.2.1
      simp
      omega
    walk_at "s"
    have e3' : G3 q3 = some (.tup ((x.2.2 ++ [("failed" : Str)]).map V.str)) := by rw [e3, List.map_append]; rfl
    refine l_sortT (tup_at e3') (by rw [List.length_append]; have := gp.2.2.2.1; simp; omega) fun q4 G4 n4 s4 e4 => ?_
    walk_at "s"
    refine l_tupL (SqL.of e4) fun q5 G5 n5 s5 e5 => ?_
    refine r (.ref q5) G5 (((sq.trans s3).trans s4).trans s5) fun y hy ey => ?_
    have ey : x.1 = y.1 := Sum.inr.inj ey
    have eq : y = x := by
      obtain ⟨i, hi, e1⟩ := List.getElem_of_mem hx
      obtain ⟨j, hj, e2⟩ := List.getElem_of_mem hy
      have hij : i = j := by
        refine (List.getElem_inj (xs := b.map (·.1)) (h₀ := by rw [List.length_map]; exact hi) (h₁ := by rw [List.length_map]; exact hj) raw.nd).mp ?_
        rw [List.getElem_map, List.getElem_map, e1, e2]
        exact ey
      subst hij
      rw [← e1, ← e2]
    rw [eq]
    exact ⟨q5, rfl, e5⟩
  · rw [List.filter_eq_self.mpr (fun _ _ => rfl)]
    exact rows.keys
end
/-! ### books made -/
def sortB (b : PB) : PB := b.mergeSort fun x y => leB x.1 y.1
theorem sortB_perm (b : PB) : (sortB b).Perm b := List.mergeSort_perm b _
theorem leB_trans {x y z : Str} (a : leB x y = true) (b : leB y z = true) : leB x z = true := decide_eq_true (leS_trans (of_decide_eq_true a) (of_decide_eq_true b))
theorem leB_total (x y : Str) : (leB x y || leB y x) = true := by
  rcases leS_total x y with h | h
  · rw [show leB x y = true from decide_eq_true h, Bool.true_or]
  · rw [show leB y x = true from decide_eq_true h, Bool.or_true]
theorem sortB_fst (b : PB) : (sortB b).map (·.1) = sortS (b.map (·.1)) := by
  refine le_unique ?_ (sortS_le _) (((sortB_perm b).map (·.1)).trans (sortS_perm _).symm)
  refine List.pairwise_map.mpr ?_
  exact List.Pairwise.imp (fun z => of_decide_eq_true z) (List.pairwise_mergeSort (le := fun x y : Str × Nat × List Str => leB x.1 y.1) (fun _ _ _ p q => leB_trans p q) (fun x y => leB_total _ _) b)
theorem RawB.perm {b c : PB} (p : c.Perm b) (r : RawB b) : RawB c := ⟨(p.map (·.1)).nodup_iff.mpr r.nd, fun x hx => r.nm x (p.mem_iff.mp hx), fun x hx => r.pr x (p.mem_iff.mp hx), by rw [p.length_eq]; exact r.n1, by rw [p.length_eq]; exact r.n6⟩
theorem RawB.sort {b : PB} (r : RawB b) : GoodB (sortB b) := ⟨r.perm (sortB_perm b), by rw [sortB_fst]; exact sortS_asc r.nd⟩
theorem pb_one {b : PB} (nd : (b.map (·.1)).Nodup) {x y : Str × Nat × List Str} (hx : x ∈ b) (hy : y ∈ b) (e : x.1 = y.1) : x = y := by
  obtain ⟨i, hi, e1⟩ := List.getElem_of_mem hx
  obtain ⟨j, hj, e2⟩ := List.getElem_of_mem hy
  have hij : i = j := by
    refine (List.getElem_inj (xs := b.map (·.1)) (h₀ := by rw [List.length_map]; exact hi) (h₁ := by rw [List.length_map]; exact hj) nd).mp ?_
    rw [List.getElem_map, List.getElem_map, e1, e2]
    exact e
  subst hij
  rw [← e1, ← e2]
theorem pb_ext {a : PB} (nd : (a.map (·.1)).Nodup) : ∀ {b c : PB}, (∀ x ∈ b, x ∈ a) → (∀ x ∈ c, x ∈ a) → b.map (·.1) = c.map (·.1) → b = c
  | [], [], _, _, _ => rfl
  | [], _ :: _, _, _, e => by simp at e
  | _ :: _, [], _, _, e => by simp at e
  | x :: b, y :: c, hb, hc, e => by
    rw [List.map_cons, List.map_cons, List.cons.injEq] at e
    rw [pb_one nd (hb x List.mem_cons_self) (hc y List.mem_cons_self) e.1, pb_ext nd (fun z h => hb z (List.mem_cons_of_mem _ h)) (fun z h => hc z (List.mem_cons_of_mem _ h)) e.2]
theorem GoodB.sorted {b : PB} (g : GoodB b) : sortB b = b := pb_ext g.raw.nd (fun x h => (sortB_perm b).mem_iff.mp h) (fun _ h => h) (by rw [sortB_fst, sortS_id g.asc])
section
variable {P : Program} {w : World} {K : PySem.W.Frag} {mg : Str → Option Value} {base : Heap}
def sp_checked_pairs : Sp := fun vs H Q _ => ∃ (p : Addr) (kvs : List (Key × V)) (b : PB), vs = [.ref p] ∧ H p = some (.dK kvs) ∧ RowsAt H kvs b ∧ RawB b ∧ ∀ D G ws, H D = none → Same H G → RowsAt G ws (sortB b) → G D = some (.dK ws) → Q (.ref D) G
theorem at_unlock {H G : Hp} {d : Addr} {kvs : List (Key × V)} {od : Obj} {v : V} {t : Nat} {as : List Str} (hd : H d = some (.dK kvs)) (s : Same (locked H d od kvs) G) (p : PairV H v t as) : PairV G v t as :=
  pairV_bears.same _ _ _ s (pairV_bears.set _ _ _ _ _ hd (fun _ z => by cases z) p)
theorem ok_checked_pairs (T : Txt K mg) : FnG P w K mg base CX0 4 T.a_checked_pairs T.d_checked_pairs ["commands"] sp_checked_pairs := by
  have G_is_answer : FnG P w K mg base CX0 2 T.a_is_answer T.d_is_answer ["value"] (sp_told K answerB1) := ok_is_answer T
  have G_is_pair : FnG P w K mg base CX0 3 T.a_is_pair T.d_is_pair ["value"] sp_pair := ok_is_pair T
  refine okG T.F_checked_pairs sc_checked_pairs (fun vs H Q E h => ?_) (fun cdv A fs s H vs Q E hr h => ?_)
  · obtain ⟨p, kvs, b, rfl, _⟩ := h
    rfl
  obtain ⟨p, kvs, b, rfl, ep, rows, raw, k⟩ := h
  have nd := sc_checked_pairs.nd
  have HP := @PassesOwn.never
  have n1 := raw.n1
  have n6 := raw.n6
  have lr := rows.len
  refine ⟨_, ((pss_cons (ps_if (PW.pt (pw_or (pt_not (pt_val (pe_callB call_isi (by rfl) T.z_isinstance (by decide +kernel) (pa_cons (pv 0) (pa_cons (pe_tyV (n := "dict") (by rfl) T.z_dict (by decide +kernel)) pa_nil))))) (pw_or1 (pt_not (pt_chain op_le op_le pe_int (pe_callB c_lenD (by rfl) T.z_len (by decide +kernel) (pa_cons (pv 0) pa_nil)) (pe_glob rfl T.m_MAX_COMMANDS T.r_MAX_COMMANDS)))))) (pss_one ps_never) pss_nil)
  (pss_cons (ps_lock (ps_for HP rfl (pi_keys (pv 0)) (pg_name (i := 1) nd rfl (Or.inl rfl)) (pss_cons (ps_if (pt_not (pt_val (pe_callG G_is_answer (hr.down (by decide)) rfl T.m_is_answer T.F_is_answer.kp T.b_is_answer .nil pass0 (pa_cons (pv 1) pa_nil)))) (pss_one ps_never) pss_nil)
  (pss_one (ps_if (pt_not (pt_val (pe_callG G_is_pair (hr.down (by decide)) rfl T.m_is_pair T.F_is_pair.kp T.b_is_pair .nil pass0 (pa_cons (pe_dget hr.hu (pv 0) (pv 1) (fun _ _ => rfl)) pa_nil)))) (pss_one ps_never) pss_nil)))))
  (pss_one (ps_ret (pe_dc (own := [("command", 1)]) rfl nd (pi_list (pe_callB (call_sortedK rfl) (by rfl) T.z_sorted (by decide +kernel) (pa_cons (pv 0) pa_nil))) (blkOk_by (own := [("command", 1)]) (N := ["commands", "command"]) (sc := defScope s_checked_pairs) (by decide +kernel)) (fun _ _ _ _ _ => pg_name (i := 1) nd rfl (Or.inl rfl)) (fun _ _ _ _ _ => pts_nil) (fun _ _ _ _ _ => by exact (pv 1)) (fun _ _ _ _ _ => by exact (pe_dget hr.hu (pv 0) (pv 1) (fun _ _ => rfl))))))))), ?_⟩
  walk_at "s"
  refine l_isDict ep ?_
  walk_at "s"
  refine i_f rfl ?_
  walk_at "s"
  refine l_lenD ep ?_
  walk_at "s"
  refine i_t (decide_eq_true (by omega)) ?_
  walk_at "s"
  refine i_f (by rw [decide_eq_true (show ((kvs.length : Nat) : Int) ≤ 6 by omega)]; rfl) ?_
  walk_at "s"
  refine l_forK (fun od R r => s_var rfl r) ep (fun i τ => ∃ z, τ = [some (.ref p), z]) ⟨none, rfl⟩ (fun od i k0 v τ G hi p0 sg R r => ?_) (fun τ G p0 sg => ?_)
  · obtain ⟨z, rfl⟩ := p0
    have hk : k0 ∈ kvs.map (·.1) := List.mem_map_of_mem (f := (·.1)) (List.mem_of_getElem? hi)
    obtain ⟨x, hx, rfl⟩ := key_of rows hk
    obtain ⟨v', ev, pv'⟩ := rows.find raw.nd hx
    walk_at "s"
    refine ⟨.str x.1, rfl, Or.inl ⟨x.1, rfl, name_txt (answer_name (raw.nm x hx)), fun J sj => ?_⟩⟩
    rw [raw.nm x hx]
    refine l_bl (i_f rfl ?_)
    walk_at "s"
    refine ⟨p, v', rfl, ?_, ?_⟩
    · rw [← ev]
      exact dgetF (at_lock (sg.trans sj))
    walk_at "s"
    refine ⟨v', x.2.1, x.2.2, rfl, at_unlock ep (sg.trans sj) pv', raw.pr x hx, fun J2 s2 => ?_⟩
    refine l_bl (i_f rfl ?_)
    walk_at "s"
    exact r _ _ ⟨_, rfl⟩ (sj.trans s2)
  · obtain ⟨z, rfl⟩ := p0
    have rows2 := rows.same sg
    walk_at "s"
    refine l_sortD (Or.inl (sg _ _ ep)) rows.keys (by rw [List.length_map]; omega) fun q G2 nq sq eq => ?_
    refine l_dcLp (SqL.of eq) ((sortS_perm _).nodup_iff.mpr raw.nd) (by rw [(sortS_perm _).length_eq, List.length_map]; omega) (fun _ => true) (fun k _ v => valV kvs (.inr k) = some v) (fun k => ⟨fun _ _ _ _ h => h, fun _ _ _ _ _ _ _ h => h⟩)
      (fun k hk G3 s3 R r => s_yes (r G3 (Same.refl G3))) (fun k hk _ G3 s3 R r => s_var rfl (r G3 (Same.refl G3))) (fun k hk _ G3 s3 R r => ?_) (fun D G3 ws hD s3 en e3 => ?_)
    · have hk : k ∈ b.map (·.1) := (sortS_perm _).mem_iff.mp hk
      obtain ⟨x, hx, rfl⟩ := List.mem_map.mp hk
      obtain ⟨v', ev, pv'⟩ := rows.find raw.nd hx
      walk_at "s"
      refine ⟨p, v', rfl, ?_, r v' G3 (Same.refl G3) ev⟩
      rw [← ev]
      exact DGet.k (k := .inr x.1) (s3 _ _ (sq _ _ (sg _ _ ep)))
    · rw [List.filter_eq_self.mpr (fun _ _ => rfl), ← sortB_fst] at en
      have nD : H D = none := by
        cases e0 : H D with
        | none => rfl
        | some u =>
          rw [sq _ _ (sg _ _ e0)] at hD
          cases hD
      exact k D G3 ws nD ((sg.trans sq).trans s3) ((rows_pick rows raw.nd (fun x h => (sortB_perm b).mem_iff.mp h) en).same ((sg.trans sq).trans s3)) e3
end
section
variable {w : World} {K : PySem.W.Frag} {mg : Str → Option Value} {base : Heap}
theorem G_UnknownName (T : Txt K mg) (k : Nat) : FnG prog0 w K mg base CX0 (k + 1) T.i_UnknownName T.d_UnknownName ["self", "name"] (spInit T.c_UnknownName "name" K) :=
  init_of T.e_UnknownName sc_UnknownName_init (by rfl) ⟨by decide, by decide, by decide, by decide⟩ (fun X => ⟨_, rfl⟩) (fun X => rfl) (fun X => rfl) k (fun X e r n v => e ▸ pe_j2 r n v (by decide) (by decide) (by decide +kernel)) fun σ H Q v e sh q => ⟨v, e, sh, q⟩
end
/-! ### books as objects -/
section
variable {K : PySem.W.Frag} {mg : Str → Option Value} {T : Txt K mg} {H G : Hp} {a : Addr} {b : PB}
def BookAt (T : Txt K mg) (H : Hp) (a : Addr) (b : PB) : Prop := ∃ dx p o kvs ows, H a = some (.ins T.c_Book dx [("_pairs", .ref p), ("_outcomes", .ref o)]) ∧ H p = some (.dK kvs) ∧ H o = some (.dK ows) ∧ RowsAt H kvs b ∧ OutsAt H ows b ∧ GoodB b
/-- read, the dict of the pairs perhaps locked -/
def BookRd (T : Txt K mg) (H : Hp) (a : Addr) (b : PB) : Prop := ∃ dx p o kvs ows, H a = some (.ins T.c_Book dx [("_pairs", .ref p), ("_outcomes", .ref o)]) ∧ Rd H p (.dK kvs) ∧ Rd H o (.dK ows) ∧ RowsAt H kvs b ∧ OutsAt H ows b ∧ GoodB b
theorem BookAt.rd (h : BookAt T H a b) : BookRd T H a b := by
  obtain ⟨dx, p, o, kvs, ows, h1, h2, h3, h4⟩ := h
  exact ⟨dx, p, o, kvs, ows, h1, Or.inl h2, Or.inl h3, h4⟩
theorem BookAt.same (s : Same H G) (h : BookAt T H a b) : BookAt T G a b := by
  obtain ⟨dx, p, o, kvs, ows, h1, h2, h3, h4, h5, h6⟩ := h
  exact ⟨dx, p, o, kvs, ows, s _ _ h1, s _ _ h2, s _ _ h3, h4.same s, h5.same s, h6⟩
theorem rd_same {a : Addr} {u : HO} (s : Same H G) (h : Rd H a u) : Rd G a u := by
  rcases h with h | ⟨o, h⟩
  · exact Or.inl (s _ _ h)
  · exact Or.inr ⟨o, s _ _ h⟩
theorem BookRd.same (s : Same H G) (h : BookRd T H a b) : BookRd T G a b := by
  obtain ⟨dx, p, o, kvs, ows, h1, h2, h3, h4, h5, h6⟩ := h
  exact ⟨dx, p, o, kvs, ows, s _ _ h1, rd_same s h2, rd_same s h3, h4.same s, h5.same s, h6⟩
theorem BookRd.good (h : BookRd T H a b) : GoodB b := by
  obtain ⟨_, _, _, _, _, _, _, _, _, _, g⟩ := h
  exact g
theorem rd_lock {d p : Addr} {kvs ows : List (Key × V)} {od : Obj} (hd : H d = some (.dK kvs)) (h : Rd H p (.dK ows)) : Rd (locked H d od kvs) p (.dK ows) := by
  by_cases e : p = d
  · subst e
    rcases h with h | ⟨o, h⟩
    · rw [hd] at h
      cases h
      exact Or.inr ⟨od, upd_same⟩
    · rw [hd] at h
      cases h
  · rcases h with h | ⟨o, h⟩
    · exact Or.inl (by show upd H d _ p = _; rw [upd_ne e]; exact h)
    · exact Or.inr ⟨o, by show upd H d _ p = _; rw [upd_ne e]; exact h⟩
/-- any dict may be locked meanwhile -/
theorem BookRd.lock {d : Addr} {kvs : List (Key × V)} {od : Obj} (hd : H d = some (.dK kvs)) (h : BookRd T H a b) : BookRd T (locked H d od kvs) a b := by
  obtain ⟨dx, p, o, kvs', ows, h1, h2, h3, h4, h5, h6⟩ := h
  have na : a ≠ d := fun z => by
    rw [z, hd] at h1
    cases h1
  exact ⟨dx, p, o, kvs', ows, by show upd H d _ a = _; rw [upd_ne na]; exact h1, rd_lock hd h2, rd_lock hd h3, h4.set hd (fun _ z => by cases z), h5.set hd (fun _ z => by cases z), h6⟩
def hasB (b : PB) : V → Bool := fun x => match x with
  | .str s => decide (s ∈ b.map (·.1))
  | _ => false
theorem hasB_no {K : PySem.W.Frag} {H : Hp} {x : V} (b : PB) (n : NotStr K H x) : hasB b x = false := by
  cases x with
  | str s => exact n.no.elim
  | _ => rfl
end
section
variable {w : World} {K : PySem.W.Frag} {mg : Str → Option Value} {base : Heap}
/-- a text or none -/
def StrOr (K : PySem.W.Frag) (H : Hp) (x : V) : Prop := (∃ s, x = .str s) ∨ NotStr K H x
def sp_has (T : Txt K mg) : Sp := fun vs H Q _ => ∃ (a : Addr) (b : PB) (x : V), vs = [.ref a, x] ∧ BookRd T H a b ∧ StrOr K H x ∧ Q (.bl (hasB b x)) H
theorem fld0 {p o : V} : ([("_pairs", p), ("_outcomes", o)] : List (Str × V)).lookup ("_pairs" : Str) = some p := rfl
theorem fld1 {p o : V} : ([("_pairs", p), ("_outcomes", o)] : List (Str × V)).lookup ("_outcomes" : Str) = some o := rfl
theorem rows_get {H : Hp} {kvs : List (Key × V)} {b : PB} {p : Addr} {s : Str} (h : Rd H p (.dK kvs)) : DGet H p (.str s) (valV kvs (.inr s)) := .inl ⟨kvs, .inr s, h, rfl, rfl⟩
theorem ok_Book___contains__ (T : Txt K mg) : FnG prog0 w K mg base CX0 1 T.a_Book___contains__ T.d_Book___contains__ ["self", "value"] (sp_has T) := by
  refine okG T.F_Book___contains__ sc_Book___contains__ (fun vs H Q E h => ?_) (fun cdv A fs s H vs Q E hr h => ?_)
  · obtain ⟨a, b, x, rfl, _⟩ := h
    rfl
  obtain ⟨a, b, x, rfl, ⟨dx, p, o, kvs, ows, h1, h2, h3, h4, h5, h6⟩, hx, k⟩ := h
  have nd := sc_Book___contains__.nd
  refine ⟨_, ((pss_one (ps_ret (pe_and (pe_callB call_isi (by rfl) T.z_isinstance (by decide +kernel) (pa_cons (pv 1) (pa_cons (pe_tyV (n := "str") (by rfl) T.z_str (by decide +kernel)) pa_nil))) (pe_one (pe_cmpR (op_dIn hr.hu) (pv 1) (pe_fld (pv 0) rfl) (by rfl))))))), ?_⟩
  walk_at "s"
  rcases hx with ⟨z, rfl⟩ | ns
  · refine l_isStr ?_
    walk_at "s"
    refine i_t rfl ?_
    walk_at "s"
    refine l_fld h1 T.o_Book.cl T.n_Book__pairs fld0 ?_
    refine l_dIn (rows_get (b := b) h2) ?_
    rw [h4.has h6.raw.nd]
    exact k
  · refine l_notStr ns ?_
    walk_at "s"
    refine i_f rfl ?_
    rw [hasB_no b ns] at k
    exact k
def sp_len (T : Txt K mg) : Sp := fun vs H Q _ => ∃ (a : Addr) (b : PB), vs = [.ref a] ∧ BookRd T H a b ∧ Q (.int b.length) H
theorem ok_Book___len__ (T : Txt K mg) : FnG prog0 w K mg base CX0 1 T.a_Book___len__ T.d_Book___len__ ["self"] (sp_len T) := by
  refine okG T.F_Book___len__ sc_Book___len__ (fun vs H Q E h => ?_) (fun cdv A fs s H vs Q E hr h => ?_)
  · obtain ⟨a, b, rfl, _⟩ := h
    rfl
  obtain ⟨a, b, rfl, ⟨dx, p, o, kvs, ows, h1, h2, h3, h4, h5, h6⟩, k⟩ := h
  have nd := sc_Book___len__.nd
  refine ⟨_, ((pss_one (ps_ret (pe_callB c_lenD (by rfl) T.z_len (by decide +kernel) (pa_cons (pe_fld (pv 0) rfl) pa_nil))))), ?_⟩
  walk_at "s"
  refine l_fld h1 T.o_Book.cl T.n_Book__pairs fld0 ?_
  walk_at "s"
  refine l_lenR h2 ?_
  rw [h4.len]
  exact k
def sp_commands (T : Txt K mg) : Sp := fun vs H Q _ => ∃ (a : Addr) (b : PB), vs = [.ref a] ∧ BookRd T H a b ∧ ∀ t G, H t = none → Same H G → G t = some (.tup ((b.map (·.1)).map V.str)) → Q (.ref t) G
theorem ok_Book_commands (T : Txt K mg) : FnG prog0 w K mg base CX0 1 T.a_Book_commands T.d_Book_commands ["self"] (sp_commands T) := by
  refine okG T.F_Book_commands sc_Book_commands (fun vs H Q E h => ?_) (fun cdv A fs s H vs Q E hr h => ?_)
  · obtain ⟨a, b, rfl, _⟩ := h
    rfl
  obtain ⟨a, b, rfl, ⟨dx, p, o, kvs, ows, h1, h2, h3, h4, h5, h6⟩, k⟩ := h
  have nd := sc_Book_commands.nd
  refine ⟨_, ((pss_one (ps_ret (pe_callTy (call_tupleD rfl) (by rfl) T.z_tuple (by decide +kernel) (pa_cons (pe_fld (pv 0) rfl) pa_nil))))), ?_⟩
  walk_at "s"
  refine l_fld h1 T.o_Book.cl T.n_Book__pairs fld0 ?_
  walk_at "s"
  refine l_tupleD h2 fun t G nt st et => k t G nt st ?_
  have e := congrArg (List.map kV) h4.keys
  rw [List.map_map, List.map_map] at e
  rw [et]
  exact congrArg (fun l => some (HO.tup l)) e
/-- raised: nothing has this name -/
def Unk (T : Txt K mg) (x : V) (H : Hp) (E : XK) : Prop := Shw K H x ∧ ∀ d, H d = none → E (.ref T.c_UnknownName) (some d) (upd H d (.xd [("name", x)]))
/-- a command's value, or nothing has this name -/
def Found (T : Txt K mg) (x : V) (H : Hp) (E : XK) (b : PB) (k : Str × Nat × List Str → Prop) : Prop := StrOr K H x ∧ ((∃ e, e ∈ b ∧ x = .str e.1 ∧ k e) ∨ (hasB b x = false ∧ Unk T x H E))
def sp_getitem (T : Txt K mg) : Sp := fun vs H Q E => ∃ (a : Addr) (b : PB) (x : V), vs = [.ref a, x] ∧ BookRd T H a b ∧ Found T x H E b fun e => ∀ v, PairV H v e.2.1 e.2.2 → Q v H
theorem hasB_in {b : PB} {e : Str × Nat × List Str} (h : e ∈ b) : hasB b (.str e.1) = true := decide_eq_true (List.mem_map_of_mem h)
theorem ok_Book___getitem__ (T : Txt K mg) : FnG prog0 w K mg base (L2.CX prog0 w) 3 T.a_Book___getitem__ T.d_Book___getitem__ ["self", "command"] (sp_getitem T) := by
  have G_Book___contains__ : FnG prog0 w K mg base CX0 1 T.a_Book___contains__ T.d_Book___contains__ ["self", "value"] (sp_has T) := ok_Book___contains__ T
  refine okGX T.F_Book___getitem__ sc_Book___getitem__ (fun vs H Q E h => ?_) (fun cdv A fs s H vs Q E hr h tk => ?_)
  · obtain ⟨a, b, x, rfl, _⟩ := h
    rfl
  obtain ⟨a, b, x, rfl, bk, hx, k⟩ := h
  obtain ⟨dx, p, o, kvs, ows, h1, h2, h3, h4, h5, h6⟩ := id bk
  have nd := sc_Book___getitem__.nd
  refine ⟨_, ((pss_cons (ps_if (pt_cmpR (op_ownNin T.D_Book___contains__ G_Book___contains__ (hr.down (by decide)) T.b_Book___contains__ pass0) (pv 1) (pv 0) (by rfl)) (pss_one (ps_raise rfl tk (pmk_makeI T.e_UnknownName.o T.e_UnknownName.iC T.e_UnknownName.tI (G_UnknownName (w := w) (base := base) T 0) (hr.down (by decide)) T.e_UnknownName.b rfl T.e_UnknownName.m (pv 1)))) pss_nil)
  (pss_one (ps_ret (pe_dget hr.hu (pe_fld (pv 0) rfl) (pv 1) (fun _ _ => rfl)))))), ?_⟩
  walk_at "s"
  refine ⟨a, dx, _, rfl, h1, a, b, x, rfl, bk, hx, _, rfl, ?_⟩
  rcases k with ⟨e, he, rfl, k⟩ | ⟨hb, sh, k⟩
  · rw [hasB_in he]
    walk_at "s"
    refine i_f rfl ?_
    walk_at "s"
    refine l_fld h1 T.o_Book.cl T.n_Book__pairs fld0 ?_
    walk_at "s"
    obtain ⟨v, ev, pv'⟩ := h4.find h6.raw.nd he
    refine ⟨p, v, rfl, ?_, k v pv'⟩
    rw [← ev]
    exact rows_get (b := b) h2
  · rw [hb]
    walk_at "s"
    refine i_t rfl ?_
    walk_at "s"
    exact ⟨fun a n => shw_u sh a _ n, fun d n => k d n⟩
end
section
variable {w : World} {K : PySem.W.Frag} {mg : Str → Option Value} {base : Heap}
def sp_takes (T : Txt K mg) : Sp := fun vs H Q E => ∃ (a : Addr) (b : PB) (x : V), vs = [.ref a, x] ∧ BookRd T H a b ∧ Found T x H E b fun e => Q (.int e.2.1) H
theorem ok_Book_takes (T : Txt K mg) : FnG prog0 w K mg base (L2.CX prog0 w) 5 T.a_Book_takes T.d_Book_takes ["self", "command"] (sp_takes T) := by
  have G_Book___getitem__ : FnG prog0 w K mg base (L2.CX prog0 w) 3 T.a_Book___getitem__ T.d_Book___getitem__ ["self", "command"] (sp_getitem T) := ok_Book___getitem__ T
  refine okGX T.F_Book_takes sc_Book_takes (fun vs H Q E h => ?_) (fun cdv A fs s H vs Q E hr h tk => ?_)
  · obtain ⟨a, b, x, rfl, _⟩ := h
    rfl
  obtain ⟨a, b, x, rfl, bk, hx, k⟩ := h
  obtain ⟨dx, p, o, kvs, ows, h1, h2, h3, h4, h5, h6⟩ := id bk
  have nd := sc_Book_takes.nd
  refine ⟨_, ((pss_one (ps_ret (pe_ix ix_tup (pe_ownAt T.D_Book___getitem__ (fun_fi T.F_Book___getitem__) G_Book___getitem__ (hr.down (by decide)) T.b_Book___getitem__ (pxE tk (fun _ _ _ _ h => h)) (pv 0) (pv 1)) pe_int (fun _ _ => rfl))))), ?_⟩
  walk_at "s"
  refine ⟨a, dx, _, rfl, h1, a, b, x, rfl, bk, hx, ?_⟩
  rcases k with ⟨e, he, rfl, k⟩ | k
  · refine Or.inl ⟨e, he, rfl, fun v pv' => ?_⟩
    obtain ⟨pr, an, rfl, e1, e2⟩ := pv'
    walk_at "s"
    exact l_ixT (tup_at e1) at0 k
  · exact Or.inr k
def sp_answers (T : Txt K mg) : Sp := fun vs H Q E => ∃ (a : Addr) (b : PB) (x : V), vs = [.ref a, x] ∧ BookRd T H a b ∧ Found T x H E b fun e => ∀ an, H an = some (.tup (e.2.2.map V.str)) → Q (.ref an) H
theorem ok_Book_answers (T : Txt K mg) : FnG prog0 w K mg base (L2.CX prog0 w) 5 T.a_Book_answers T.d_Book_answers ["self", "command"] (sp_answers T) := by
  have G_Book___getitem__ : FnG prog0 w K mg base (L2.CX prog0 w) 3 T.a_Book___getitem__ T.d_Book___getitem__ ["self", "command"] (sp_getitem T) := ok_Book___getitem__ T
  refine okGX T.F_Book_answers sc_Book_answers (fun vs H Q E h => ?_) (fun cdv A fs s H vs Q E hr h tk => ?_)
  · obtain ⟨a, b, x, rfl, _⟩ := h
    rfl
  obtain ⟨a, b, x, rfl, bk, hx, k⟩ := h
  obtain ⟨dx, p, o, kvs, ows, h1, h2, h3, h4, h5, h6⟩ := id bk
  have nd := sc_Book_answers.nd
  refine ⟨_, ((pss_one (ps_ret (pe_ix ix_tup (pe_ownAt T.D_Book___getitem__ (fun_fi T.F_Book___getitem__) G_Book___getitem__ (hr.down (by decide)) T.b_Book___getitem__ (pxE tk (fun _ _ _ _ h => h)) (pv 0) (pv 1)) pe_int (fun _ _ => rfl))))), ?_⟩
  walk_at "s"
  refine ⟨a, dx, _, rfl, h1, a, b, x, rfl, bk, hx, ?_⟩
  rcases k with ⟨e, he, rfl, k⟩ | k
  · refine Or.inl ⟨e, he, rfl, fun v pv' => ?_⟩
    obtain ⟨pr, an, rfl, e1, e2⟩ := pv'
    walk_at "s"
    exact l_ixT (tup_at e1) at1 (k an e2)
  · exact Or.inr k
def sp_outcomes (T : Txt K mg) : Sp := fun vs H Q E => ∃ (a : Addr) (b : PB) (x : V), vs = [.ref a, x] ∧ BookRd T H a b ∧ Found T x H E b fun e => ∀ t, H t = some (.tup ((outs e.2.2).map V.str)) → Q (.ref t) H
theorem ok_Book_outcomes (T : Txt K mg) : FnG prog0 w K mg base (L2.CX prog0 w) 3 T.a_Book_outcomes T.d_Book_outcomes ["self", "command"] (sp_outcomes T) := by
  have G_Book___contains__ : FnG prog0 w K mg base CX0 1 T.a_Book___contains__ T.d_Book___contains__ ["self", "value"] (sp_has T) := ok_Book___contains__ T
  refine okGX T.F_Book_outcomes sc_Book_outcomes (fun vs H Q E h => ?_) (fun cdv A fs s H vs Q E hr h tk => ?_)
  · obtain ⟨a, b, x, rfl, _⟩ := h
    rfl
  obtain ⟨a, b, x, rfl, bk, hx, k⟩ := h
  obtain ⟨dx, p, o, kvs, ows, h1, h2, h3, h4, h5, h6⟩ := id bk
  have nd := sc_Book_outcomes.nd
  refine ⟨_, ((pss_cons (ps_if (pt_cmpR (op_ownNin T.D_Book___contains__ G_Book___contains__ (hr.down (by decide)) T.b_Book___contains__ pass0) (pv 1) (pv 0) (by rfl)) (pss_one (ps_raise rfl tk (pmk_makeI T.e_UnknownName.o T.e_UnknownName.iC T.e_UnknownName.tI (G_UnknownName (w := w) (base := base) T 0) (hr.down (by decide)) T.e_UnknownName.b rfl T.e_UnknownName.m (pv 1)))) pss_nil)
  (pss_one (ps_ret (pe_dget hr.hu (pe_fld (pv 0) rfl) (pv 1) (fun _ _ => rfl)))))), ?_⟩
  walk_at "s"
  refine ⟨a, dx, _, rfl, h1, a, b, x, rfl, bk, hx, _, rfl, ?_⟩
  rcases k with ⟨e, he, rfl, k⟩ | ⟨hb, sh, k⟩
  · rw [hasB_in he]
    walk_at "s"
    refine i_f rfl ?_
    walk_at "s"
    refine l_fld h1 T.o_Book.cl T.n_Book__outcomes fld1 ?_
    walk_at "s"
    obtain ⟨v, ev, t, rfl, et⟩ := h5.find h6.raw.nd he
    refine ⟨o, .ref t, rfl, ?_, k t et⟩
    rw [← ev]
    exact rows_get (b := b) h3
  · rw [hb]
    walk_at "s"
    refine i_t rfl ?_
    walk_at "s"
    exact ⟨fun a n => shw_u sh a _ n, fun d n => k d n⟩
/-! ### compared, told as a text -/
def pairD (x : Nat × List Str) : PyData := .tuple [.int x.1, .tuple (x.2.map PyData.str)]
def rowsD (b : PB) : List (Key × PyData) := b.map fun x => (.inr x.1, pairD x.2)
theorem dp_strs {H : Hp} : ∀ l : List Str, DpAll K H (l.map V.str) (l.map PyData.str)
  | [] => .nil
  | s :: l => .cons (.str s) (dp_strs l)
theorem dp_pair {H : Hp} {v : V} {t : Nat} {as : List Str} (h : PairV H v t as) : Dp K H v (pairD (t, as)) := by
  obtain ⟨pr, an, rfl, e1, e2⟩ := h
  exact .tup (tup_at e1) (.cons (.int _) (.cons (.tup (tup_at e2) (dp_strs as)) .nil))
theorem str_shaped {l : List Str} (h : ∀ s ∈ l, nameB s = true) : PyData.canLayAll0 (l.map PyData.str) = true ∧ PyData.depthAll (l.map PyData.str) = 0 := by
  induction l with
  | nil => exact ⟨rfl, rfl⟩
  | cons s l ih =>
    obtain ⟨i1, i2⟩ := ih fun x hx => h x (List.mem_cons_of_mem _ hx)
    have hs := (name_txt (h s List.mem_cons_self)).2
    refine ⟨?_, ?_⟩
    · rw [List.map_cons]
      simp only [PyData.canLayAll0, PyData.canLay0, i1, Bool.and_true]
      show (s.cps).all _ = true
      rw [← Array.all_toList, List.all_eq_true]
      intro c hc
      have := hs c hc
      simp
      omega
    · rw [List.map_cons]
      simp only [PyData.depthAll, PyData.depth, i2]
      rfl
theorem pair_shaped {t : Nat} {as : List Str} (g : GoodP t as) : SeqAt.shaped (pairD (t, as)) = true := by
  obtain ⟨h1, h2⟩ := str_shaped fun s hs => answer_name (g.2.2.2.2 s hs)
  unfold SeqAt.shaped pairD
  simp only [PyData.canLay0, PyData.canLayAll0, PyData.depth, PyData.depthAll, h1, h2]
  rfl
theorem rows_holds {H : Hp} : ∀ {kvs : List (Key × V)} {b : PB}, RowsAt H kvs b → (∀ x ∈ b, GoodP x.2.1 x.2.2) → HoldsD K H kvs (rowsD b)
  | [], [], _, _ => .nil
  | [], _ :: _, h, _ => nomatch h
  | _ :: _, [], h, _ => nomatch h
  | _ :: _, x :: b, .cons a t, g => .cons ⟨a.1, dp_pair a.2, pair_shaped (g x List.mem_cons_self)⟩ (rows_holds t fun y hy => g y (List.mem_cons_of_mem _ hy))
theorem eqv_strs : ∀ {l m : List Str}, PyData.eqvAll (l.map PyData.str) (m.map PyData.str) = decide (l = m)
  | [], [] => rfl
  | [], _ :: _ => rfl
  | _ :: _, [] => rfl
  | x :: l, y :: m => by
    rw [List.map_cons, List.map_cons]
    simp only [PyData.eqvAll, PyData.eqv, eqv_strs]
    by_cases h : x = y <;> simp [h]
theorem eqv_pair {x y : Nat × List Str} : PyData.eqv (pairD x) (pairD y) = decide (x = y) := by
  unfold pairD
  simp only [PyData.eqv, PyData.eqvAll, eqv_strs, Bool.and_true]
  obtain ⟨i, l⟩ := x
  obtain ⟨j, m⟩ := y
  by_cases h1 : i = j <;> by_cases h2 : l = m <;> simp [h1, h2] <;> omega
theorem findD_rows {b : PB} {n : Str} : findD (rowsD b) (.inr n) = (b.find? fun x => decide (x.1 = n)).map fun x => pairD x.2 := by
  unfold findD rowsD
  rw [List.find?_map, Option.map_map]
  have e : ((fun p : Key × PyData => decide (p.1 = .inr n)) ∘ fun x : Str × Nat × List Str => ((.inr x.1 : Key), pairD x.2)) = fun x => decide (x.1 = n) := by
    funext x
    show decide ((Sum.inr x.1 : Key) = .inr n) = decide (x.1 = n)
    by_cases h : x.1 = n
    · rw [h, decide_eq_true rfl, decide_eq_true rfl]
    · rw [decide_eq_false h, decide_eq_false fun z => h (Sum.inr.inj z)]
  rw [e]
  rfl
theorem inD_rows {b : PB} (nd : (b.map (·.1)).Nodup) : ∀ {c : PB}, inD (rowsD b) (rowsD c) = decide (∀ x ∈ c, x ∈ b)
  | [] => by
    rw [decide_eq_true]
    · rfl
    · intro _ h
      cases h
  | x :: c => by
    have e : inD (rowsD b) (rowsD (x :: c)) = match findD (rowsD b) (.inr x.1) with | none => false | some y => PyData.eqv (pairD x.2) y && inD (rowsD b) (rowsD c) := rfl
    rw [e, findD_rows, inD_rows nd (c := c)]
    cases f : b.find? fun y => decide (y.1 = x.1) with
    | none =>
      rw [Option.map_none]
      have : x ∉ b := fun h => by
        have := List.find?_eq_none.mp f x h
        simp at this
      exact (decide_eq_false fun z => this (z x List.mem_cons_self)).symm
    | some y =>
      have hy := List.mem_of_find?_eq_some f
      have ey : y.1 = x.1 := by
        have := List.find?_some f
        simpa using this
      rw [Option.map_some]
      show (PyData.eqv (pairD x.2) (pairD y.2) && decide (∀ z ∈ c, z ∈ b)) = _
      rw [eqv_pair]
      by_cases h : x ∈ b
      · have : x = y := pb_one nd h hy ey.symm
        rw [this, decide_eq_true rfl, Bool.true_and]
        by_cases h2 : ∀ z ∈ c, z ∈ b
        · rw [decide_eq_true h2, decide_eq_true]
          intro z hz
          rcases List.mem_cons.mp hz with rfl | hz
          · exact hy
          · exact h2 z hz
        · rw [decide_eq_false h2, decide_eq_false]
          exact fun z => h2 fun y' hy' => z y' (List.mem_cons_of_mem _ hy')
      · have : x.2 ≠ y.2 := fun z => h (by
          have : x = y := Prod.ext ey.symm z
          rw [this]
          exact hy)
        rw [decide_eq_false this, Bool.false_and]
        exact (decide_eq_false fun z => h (z x List.mem_cons_self)).symm
theorem perm_sub : ∀ {l m : List Str}, l.Nodup → (∀ x ∈ l, x ∈ m) → m.length ≤ l.length → l.Perm m
  | [], m, _, _, h => by
    rw [List.length_eq_zero_iff.mp (Nat.le_zero.mp h)]
  | x :: r, m, nd, sub, h => by
    obtain ⟨n1, n2⟩ := List.nodup_cons.mp nd
    have hx := sub x List.mem_cons_self
    have le := List.length_erase_of_mem hx
    rw [List.length_cons] at h
    refine (List.Perm.cons x (perm_sub (m := m.erase x) n2 (fun y hy => ?_) (by omega))).trans (List.perm_cons_erase hx).symm
    have ne : y ≠ x := fun e => n1 (e ▸ hy)
    exact (List.mem_erase_of_ne ne).mpr (sub y (List.mem_cons_of_mem _ hy))
theorem eqD_rows {b c : PB} (gb : GoodB b) (gc : GoodB c) : eqD (rowsD b) (rowsD c) = decide (b = c) := by
  unfold eqD
  rw [inD_rows gc.raw.nd]
  have l1 : (rowsD b).length = b.length := List.length_map _
  have l2 : (rowsD c).length = c.length := List.length_map _
  rw [l1, l2]
  by_cases h : b = c
  · subst h
    rw [decide_eq_true rfl, decide_eq_true fun _ z => z]
    simp
  · rw [decide_eq_false h]
    by_cases hl : b.length = c.length
    · have : ¬ ∀ x ∈ b, x ∈ c := fun sub => h (by
        have p : (b.map (·.1)).Perm (c.map (·.1)) := perm_sub gb.raw.nd (fun n hn => by
            obtain ⟨x, hx, rfl⟩ := List.mem_map.mp hn
            exact List.mem_map_of_mem (sub x hx)) (by rw [List.length_map, List.length_map]; omega)
        exact pb_ext gc.raw.nd sub (fun _ z => z) (asc_unique gb.asc gc.asc p))
      rw [decide_eq_false this, Bool.and_false]
    · have : (b.length == c.length) = false := by simpa using hl
      rw [this, Bool.false_and]
end
section
variable {w : World} {K : PySem.W.Frag} {mg : Str → Option Value} {base : Heap}
/-- another book, or a value of a built-in kind -/
def OrBook (T : Txt K mg) (H : Hp) (y : V) (k : PB → Prop) (n : Prop) : Prop := (∃ c b2, y = .ref c ∧ BookRd T H c b2 ∧ k b2) ∨ (KindAt K H y ∧ n)
def sp_eq (T : Txt K mg) : Sp := fun vs H Q _ => ∃ (a : Addr) (b : PB) (y : V), vs = [.ref a, y] ∧ BookRd T H a b ∧ OrBook T H y (fun c => Q (.bl (decide (b = c))) H) (Q (.bl false) H)
theorem ok_Book___eq__ (T : Txt K mg) : FnG prog0 w K mg base CX0 3 T.a_Book___eq__ T.d_Book___eq__ ["self", "other"] (sp_eq T) := by
  refine okG T.F_Book___eq__ sc_Book___eq__ (fun vs H Q E h => ?_) (fun cdv A fs s H vs Q E hr h => ?_)
  · obtain ⟨a, b, x, rfl, _⟩ := h
    rfl
  obtain ⟨a, b, y, rfl, bk, k⟩ := h
  obtain ⟨dx, p, o, kvs, ows, h1, h2, h3, h4, h5, h6⟩ := id bk
  have nd := sc_Book___eq__.nd
  refine ⟨_, ((pss_cons (ps_if (pt_not (pt_val (pe_callB call_isi (by rfl) T.z_isinstance (by decide +kernel) (pa_cons (pv 1) (pa_cons (pe_glob (v := .ref T.c_Book) rfl T.m_Book rfl) pa_nil))))) (pss_one (ps_ret pe_bl)) pss_nil)
  (pss_one (ps_ret (pe_cmpR (op_eqDD hr.u70) (pe_fld (pv 0) rfl) (pe_fld (pv 1) rfl) (nomark _)))))), ?_⟩
  walk_at "s"
  rcases k with ⟨c, b2, rfl, bk2, k⟩ | ⟨ky, k⟩
  · obtain ⟨dx2, p2, o2, kvs2, ows2, g1, g2, g3, g4, g5, g6⟩ := id bk2
    refine l_isOwn T.o_Book g1 ?_
    walk_at "s"
    refine i_f rfl ?_
    walk_at "s"
    refine l_fld h1 T.o_Book.cl T.n_Book__pairs fld0 ?_
    walk_at "s"
    refine l_fld g1 T.o_Book.cl T.n_Book__pairs fld0 ?_
    refine ⟨p, p2, kvs, kvs2, rowsD b, rowsD b2, rfl, rfl, h2, g2, rows_holds h4 h6.raw.pr, rows_holds g4 g6.raw.pr, ?_⟩
    rw [eqD_rows h6 g6]
    exact k
  · refine l_notOwn T.o_Book ky ?_
    walk_at "s"
    refine i_t rfl ?_
    walk_at "s"
    exact k
def bookText (n : Nat) : Str := ((Str.empty ++ ("book of " : Str)) ++ (toString (n : Int) : Str)) ++ (" commands" : Str)
def sp_str (T : Txt K mg) : Sp := fun vs H Q _ => ∃ (a : Addr) (b : PB), vs = [.ref a] ∧ BookRd T H a b ∧ Q (.str (bookText b.length)) H
theorem ok_Book___str__ (T : Txt K mg) : FnG prog0 w K mg base CX0 1 T.a_Book___str__ T.d_Book___str__ ["self"] (sp_str T) := by
  refine okG T.F_Book___str__ sc_Book___str__ (fun vs H Q E h => ?_) (fun cdv A fs s H vs Q E hr h => ?_)
  · obtain ⟨a, b, rfl, _⟩ := h
    rfl
  obtain ⟨a, b, rfl, ⟨dx, p, o, kvs, ows, h1, h2, h3, h4, h5, h6⟩, k⟩ := h
  have nd := sc_Book___str__.nd
  refine ⟨_, ((pss_one (ps_ret (pe_joined (PJ.cons pe_str (PJ.cons (pe_fmt (pe_callB c_lenD (by rfl) T.z_len (by decide +kernel) (pa_cons (pe_fld (pv 0) rfl) pa_nil))) (PJ.cons pe_str PJ.nil))))))), ?_⟩
  walk_at "s"
  have n6 := h6.raw.n6
  have tx : ∀ n : Nat, n ≤ 6 → ((toString (n : Int) : Str)).length ≤ 6 := fun n hn => by
    match n, hn with
    | 0, _ | 1, _ | 2, _ | 3, _ | 4, _ | 5, _ | 6, _ => decide +kernel
    | n + 7, h => omega
  have t6 := tx b.length n6
  refine ⟨_, rfl, by decide +kernel, ?_⟩
  show tCB rLenD _ _ _ _
  walk_at "s"
  refine l_fld h1 T.o_Book.cl T.n_Book__pairs fld0 ?_
  walk_at "s"
  refine l_lenR h2 ?_
  rw [h4.len]
  have le : ((Str.empty ++ ("book of " : Str))).length = 8 := by decide +kernel
  have lc : ((" commands" : Str)).length = 9 := by decide +kernel
  refine Or.inr ⟨_, rfl, ?_, _, rfl, ?_, _, rfl, ?_, k⟩
  · have h : ((b.length : Int)).natAbs ≤ 6 := by omega
    exact Nat.lt_of_le_of_lt (Nat.log2_le_self _) (by omega)
  · rw [append_len, le, sizeLine_eq]
    omega
  · rw [append_len, append_len, le, sizeLine_eq]
    show 8 + _ + ((" commands" : Str)).length ≤ _
    rw [lc]
    omega
end
section
variable {w : World} {K : PySem.W.Frag} {mg : Str → Option Value} {base : Heap}
/-- the new object and the dict of its keywords; then the object bears the book -/
def sp_init (T : Txt K mg) : Sp := fun vs H Q _ => ∃ (x D dx : Addr) (kvs : List (Key × V)) (b : PB), vs = [.ref x, .ref D] ∧ H x = some (.ins T.c_Book dx []) ∧ H D = some (.dK kvs) ∧ RowsAt H kvs b ∧ RawB b ∧
  ∀ G, BookAt T G x (sortB b) → (∀ y u, y ≠ x → H y = some u → G y = some u) → Q .non G
theorem put0 {p : V} : putF "_pairs" p [] = [(("_pairs" : Str), p)] := rfl
theorem put1 {p o : V} : putF "_outcomes" o [(("_pairs" : Str), p)] = [(("_pairs" : Str), p), ("_outcomes", o)] := rfl
theorem put2 {p p' o : V} : putF "_pairs" p' [(("_pairs" : Str), p), ("_outcomes", o)] = [(("_pairs" : Str), p'), ("_outcomes", o)] := rfl
theorem put3 {p o o' : V} : putF "_outcomes" o' [(("_pairs" : Str), p), ("_outcomes", o)] = [(("_pairs" : Str), p), ("_outcomes", o')] := rfl
theorem init_kw (T : Txt K mg) (ks : List Str) (nd : ks.Nodup) (few : ks.length ≤ 1000)
    (hb : ∀ (fd : FuncData), (∃ (kV doc pm cdv ct : Value) (an : Option Addr), fd = PySem.W.fnOf "__init__" "Book.__init__" (defArgs s_Book___init__) (defBody s_Book___init__) (defScope s_Book___init__) .none kV doc pm an cdv ct) → ∀ (u : Value) (ws : List Value), ws.length = ks.length → bindArgs fd ⟨[u], ks.zip ws⟩ =
      ((alloc (dOf [] 0) : Sem Addr) >>= fun D => (forIn (ks.zip ws) PUnit.unit fun x _ => (nsSet D x.1 x.2 >>= fun _ => pure (ForInStep.yield PUnit.unit))) >>= fun _ => pure [(("self" : Str), u), (("commands" : Str), Value.ref D)])) :
    FnKW prog0 w K mg base CX0 6 T.a_Book___init__ ks (sp_init T) := by
  have G_checked_pairs : FnG prog0 w K mg base CX0 4 T.a_checked_pairs T.d_checked_pairs ["commands"] sp_checked_pairs := ok_checked_pairs T
  have G_outcomes_in : FnG prog0 w K mg base CX0 1 T.a_outcomes_in T.d_outcomes_in ["pairs"] sp_outcomes_in := ok_outcomes_in T
  obtain ⟨oc, od, kV, doc, pm, an, cdv, ct, osl, e, lk, cd⟩ := T.F_Book___init__.ex
  rw [e] at lk
  refine fn_kw nd few lk cd sc_Book___init__ StX.cxUp_none (hb _ ⟨_, _, _, _, _, _, rfl⟩) fun A fs s H vs Q E hr h => ?_
  obtain ⟨x, D, dx, kvs, b, rfl, hx, hD, rows, raw, k⟩ := h
  have nd := sc_Book___init__.nd
  suffices hh : ∃ t, PSs (cxOf CX0 prog0 w K mg base ["self", "commands"] "Book.__init__" (defScope s_Book___init__) T.a_Book___init__ cdv A fs s H E).nox (defBody s_Book___init__) t ∧ t { nx := fun _ G => Q .non G, rt := Q } (start ["self", "commands"] [.ref x, .ref D]) H from by
    obtain ⟨t, h1, h2⟩ := hh
    exact ⟨t, h1.nox, h2⟩
  refine ⟨_, ((pss_cons (ps_fld (pv 0) (pe_callG G_checked_pairs (hr.down (by decide)) rfl T.m_checked_pairs T.F_checked_pairs.kp T.b_checked_pairs .nil pass0 (pa_cons (pv 1) pa_nil)) rfl)
  (pss_one (ps_fld (pv 0) (pe_callG G_outcomes_in (hr.down (by decide)) rfl T.m_outcomes_in T.F_outcomes_in.kp T.b_outcomes_in .nil pass0 (pa_cons (pe_fld (pv 0) rfl) pa_nil)) rfl)))), ?_⟩
  walk_at "s"
  refine ⟨D, kvs, b, rfl, hD, rows, raw, fun p G ws np sp rp ep => ?_⟩
  walk_at "s"
  have hxp : p ≠ x := fun z => by
    rw [z, hx] at np
    cases np
  refine l_setf (sp _ _ hx) T.o_Book.cl T.n_Book__pairs (by show 0 < 1000; decide) ?_
  rw [put0]
  walk_at "s"
  refine l_fld upd_same T.o_Book.cl T.n_Book__pairs rfl ?_
  walk_at "s"
  have gx := sp _ _ hx
  have gd : RawB (sortB b) := raw.sort.raw
  refine ⟨p, ws, sortB b, rfl, by rw [upd_ne hxp]; exact ep, rp.set gx (fun _ z => by cases z), gd, fun o G2 ows no so ro eo => ?_⟩
  walk_at "s"
  have g2x := so _ _ (upd_same (H := G) (a := x))
  have hox : o ≠ x := fun z => by
    rw [z, upd_same] at no
    cases no
  refine l_setf g2x T.o_Book.cl T.n_Book__outcomes (by show 1 < 1000; decide) ?_
  rw [put1]
  have g2p := so p _ (by rw [upd_ne hxp]; exact ep)
  walk_at "s"
  refine k _ ⟨dx, p, o, ws, ows, upd_same, by rw [upd_ne hxp]; exact g2p, by rw [upd_ne hox]; exact eo, ((rp.set gx (fun _ z => by cases z)).same so).set g2x (fun _ z => by cases z), ro.set g2x (fun _ z => by cases z), raw.sort⟩ fun y u ny hy => ?_
  rw [upd_ne ny]
  refine so _ _ ?_
  rw [upd_ne ny]
  exact sp _ _ hy
theorem gk_only (T : Txt K mg) : FnKW prog0 w K mg base CX0 6 T.a_Book___init__ ["only"] (sp_init T) := init_kw T ["only"] (by decide) (by decide) fun fd ⟨_, _, _, _, _, _, e⟩ u ws hl => by
  subst e
  match ws, hl with
  | [w0], _ => rfl
theorem gk_a (T : Txt K mg) : FnKW prog0 w K mg base CX0 6 T.a_Book___init__ ["a"] (sp_init T) := init_kw T ["a"] (by decide) (by decide) fun fd ⟨_, _, _, _, _, _, e⟩ u ws hl => by
  subst e
  match ws, hl with
  | [w0], _ => rfl
theorem gk_laz (T : Txt K mg) : FnKW prog0 w K mg base CX0 6 T.a_Book___init__ ["look", "a", "zzzzzzzz"] (sp_init T) := init_kw T ["look", "a", "zzzzzzzz"] (by decide) (by decide) fun fd ⟨_, _, _, _, _, _, e⟩ u ws hl => by
  subst e
  match ws, hl with
  | [w0, w1, w2], _ => rfl
theorem l_makeBook {T : Txt K mg} {H : Hp} {m : Nat} {ks : List Str} {E : XK} {zs : List V} {Q : VK} {b : PB} (len : zs.length = m) (rows : RowsAt H (kwV ks zs) b) (raw : RawB b) (k : ∀ x G, H x = none → Same H G → BookAt T G x (sortB b) → Q (.ref x) G) :
    RMakeKW T.c_Book m ks (sp_init T) E zs H Q := by
  refine ⟨len, fun x dx nx ndx ne D nD => ?_⟩
  have s1 : Same H (upd H dx (.own x)) := Same.upd0 ndx
  have s2 : Same H (upd (upd H dx (.own x)) x (.ins T.c_Book dx [])) := Same.new s1 (by rw [upd_ne (Ne.symm ne)]; exact nx)
  have s3 := Same.new (o := .dK (kwV ks zs)) s2 nD
  have hx : upd (upd (upd H dx (.own x)) x (.ins T.c_Book dx [])) D (.dK (kwV ks zs)) x = some (.ins T.c_Book dx []) := by
    have nxD : x ≠ D := fun z => by
      rw [← z, upd_same] at nD
      cases nD
    rw [upd_ne nxD, upd_same]
  refine ⟨x, D, dx, _, b, rfl, hx, upd_same, rows.same s3, raw, fun G bk keep => ⟨rfl, k x G nx (fun y u hy => keep y u ?_ (s3 _ _ hy)) bk⟩⟩
  exact ne_of_none hy nx
theorem none_of_same {H G : Hp} {a : Addr} (s : Same H G) (n : G a = none) : H a = none := by
  cases e0 : H a with
  | none => rfl
  | some u =>
    rw [s _ _ e0] at n
    cases n
def sp_book_withF (T : Txt K mg) : Sp := fun vs H Q _ => ∃ (p : Addr) (kvs : List (Key × V)) (b : PB), vs = [.ref p] ∧ H p = some (.dK kvs) ∧ RowsAt H kvs b ∧ GoodB b ∧ ∀ a G, H a = none → Same H G → BookAt T G a b → (∃ dx o, H o = none ∧ G a = some (.ins T.c_Book dx [("_pairs", .ref p), ("_outcomes", .ref o)])) → Q (.ref a) G
theorem ok_book_withF (T : Txt K mg) : FnG prog0 w K mg base CX0 9 T.a_book_with T.d_book_with ["pairs"] (sp_book_withF T) := by
  have GK_Book_only : FnKW prog0 w K mg base CX0 6 T.a_Book___init__ ["only"] (sp_init T) := gk_only T
  have G_outcomes_in : FnG prog0 w K mg base CX0 1 T.a_outcomes_in T.d_outcomes_in ["pairs"] sp_outcomes_in := ok_outcomes_in T
  refine okG T.F_book_with sc_book_with (fun vs H Q E h => ?_) (fun cdv A fs s H vs Q E hr h => ?_)
  · obtain ⟨p, kvs, b, rfl, _⟩ := h
    rfl
  obtain ⟨p, kvs, b, rfl, ep, rows, gb, k⟩ := h
  have nd := sc_book_with.nd
  refine ⟨_, ((pss_cons (ps_set (i := 1) nd rfl (Or.inl rfl) (pe_makeKW T.k_Book GK_Book_only (hr.down (by decide)) rfl T.m_Book pass0 (pk_cons (pe_tup (pa_cons pe_int (pa_cons (pe_tup (pa_cons pe_str pa_nil)) pa_nil))) pk_nil)))
  (pss_cons (ps_fld (pv 1) (pv 0) rfl)
  (pss_cons (ps_fld (pv 1) (pe_callG G_outcomes_in (hr.down (by decide)) rfl T.m_outcomes_in T.F_outcomes_in.kp T.b_outcomes_in .nil pass0 (pa_cons (pv 0) pa_nil)) rfl)
  (pss_one (ps_ret (pv 1))))))), ?_⟩
  walk_at "s"
  refine l_newT (by show 1 ≤ sizeLine; decide) fun t G nt st et => ?_
  walk_at "s"
  refine l_newT (by show 2 ≤ sizeLine; decide) fun q G2 nq sq eq => ?_
  walk_at "s"
  have rw1 : RowsAt G2 (kwV ["only"] [.ref q]) [("only", 0, ["ok"])] := .cons ⟨rfl, q, t, rfl, eq, sq _ _ et⟩ .nil
  have raw1 : RawB [("only", 0, ["ok"])] := by
    refine ⟨by decide +kernel, fun x hx => ?_, fun x hx => ?_, by decide, by decide⟩
    · obtain rfl := List.mem_singleton.mp hx
      decide +kernel
    · obtain rfl := List.mem_singleton.mp hx
      refine ⟨by decide, List.pairwise_singleton _ _, by decide, by decide, fun s hs => ?_⟩
      obtain rfl := List.mem_singleton.mp hs
      decide +kernel
  refine l_makeBook rfl rw1 raw1 fun x G3 nx s3 bk => ?_
  have sx : Same H G3 := (st.trans sq).trans s3
  have hxn : H x = none := by
    cases e0 : H x with
    | none => rfl
    | some u =>
      rw [(st.trans sq) _ _ e0] at nx
      cases nx
  obtain ⟨dx, p0, o0, kvs0, ows0, h1, h2, h3, h4, h5, h6⟩ := bk
  walk_at "s"
  refine l_setf h1 T.o_Book.cl T.n_Book__pairs (by show 2 < 1000; decide) ?_
  rw [put2]
  walk_at "s"
  have ux : Same H (upd G3 x (.ins T.c_Book dx [("_pairs", .ref p), ("_outcomes", .ref o0)])) := Same.setNew sx hxn
  refine ⟨p, kvs, b, rfl, ux _ _ ep, rows.same ux, gb.raw, fun o G4 ows no so ro eo => ?_⟩
  walk_at "s"
  have g4 := so _ _ (upd_same (H := G3) (a := x))
  refine l_setf g4 T.o_Book.cl T.n_Book__outcomes (by show 2 < 1000; decide) ?_
  rw [put3]
  walk_at "s"
  have fin : Same H (upd G4 x (.ins T.c_Book dx [("_pairs", .ref p), ("_outcomes", .ref o)])) := Same.setNew (ux.trans so) hxn
  have hox : o ≠ x := fun z => by
    rw [z, upd_same] at no
    cases no
  exact k x _ hxn fin ⟨dx, p, o, kvs, ows, upd_same, fin _ _ ep, by rw [upd_ne hox]; exact eo, rows.same fin, ro.set g4 (fun _ z => by cases z), gb⟩ ⟨dx, o, none_of_same ux no, upd_same⟩
def sp_book_with (T : Txt K mg) : Sp := fun vs H Q _ => ∃ (p : Addr) (kvs : List (Key × V)) (b : PB), vs = [.ref p] ∧ H p = some (.dK kvs) ∧ RowsAt H kvs b ∧ GoodB b ∧ ∀ a G, H a = none → Same H G → BookAt T G a b → Q (.ref a) G
theorem ok_book_with (T : Txt K mg) : FnG prog0 w K mg base CX0 9 T.a_book_with T.d_book_with ["pairs"] (sp_book_with T) := (ok_book_withF T).weaker fun vs H Q E h => by
  obtain ⟨p, kvs, b, e, h1, h2, h3, k⟩ := h
  exact ⟨p, kvs, b, e, h1, h2, h3, fun a G n s bk _ => k a G n s bk⟩
def sp_ofF (T : Txt K mg) : Sp := fun vs H Q _ => ∃ (c : V) (p : Addr) (kvs : List (Key × V)) (b : PB), vs = [c, .ref p] ∧ H p = some (.dK kvs) ∧ RowsAt H kvs b ∧ RawB b ∧ ∀ a G, H a = none → Same H G → BookAt T G a (sortB b) → (∃ dx p o, H p = none ∧ H o = none ∧ G a = some (.ins T.c_Book dx [("_pairs", .ref p), ("_outcomes", .ref o)])) → Q (.ref a) G
theorem ok_Book_ofF (T : Txt K mg) : FnG prog0 w K mg base CX0 11 T.a_Book_of T.d_Book_of ["cls", "commands"] (sp_ofF T) := by
  have G_book_with : FnG prog0 w K mg base CX0 9 T.a_book_with T.d_book_with ["pairs"] (sp_book_withF T) := ok_book_withF T
  have G_checked_pairs : FnG prog0 w K mg base CX0 4 T.a_checked_pairs T.d_checked_pairs ["commands"] sp_checked_pairs := ok_checked_pairs T
  refine okG T.F_Book_of sc_Book_of (fun vs H Q E h => ?_) (fun cdv A fs s H vs Q E hr h => ?_)
  · obtain ⟨c, p, kvs, b, rfl, _⟩ := h
    rfl
  obtain ⟨c, p, kvs, b, rfl, ep, rows, raw, k⟩ := h
  have nd := sc_Book_of.nd
  refine ⟨_, ((pss_one (ps_ret (pe_callG G_book_with (hr.down (by decide)) rfl T.m_book_with T.F_book_with.kp T.b_book_with .nil pass0 (pa_cons (pe_callG G_checked_pairs (hr.down (by decide)) rfl T.m_checked_pairs T.F_checked_pairs.kp T.b_checked_pairs .nil pass0 (pa_cons (pv 1) pa_nil)) pa_nil))))), ?_⟩
  walk_at "s"
  refine ⟨p, kvs, b, rfl, ep, rows, raw, fun D G ws nD sD rD eD => ?_⟩
  walk_at "s"
  refine ⟨D, ws, sortB b, rfl, eD, rD, raw.sort, fun a G2 na sa bk fr => ?_⟩
  obtain ⟨dx, o, no, ea⟩ := fr
  exact k a G2 (none_of_same sD na) (sD.trans sa) bk ⟨dx, D, o, nD, none_of_same sD no, ea⟩
def sp_of (T : Txt K mg) : Sp := fun vs H Q _ => ∃ (c : V) (p : Addr) (kvs : List (Key × V)) (b : PB), vs = [c, .ref p] ∧ H p = some (.dK kvs) ∧ RowsAt H kvs b ∧ RawB b ∧ ∀ a G, H a = none → Same H G → BookAt T G a (sortB b) → Q (.ref a) G
theorem ok_Book_of (T : Txt K mg) : FnG prog0 w K mg base CX0 11 T.a_Book_of T.d_Book_of ["cls", "commands"] (sp_of T) := (ok_Book_ofF T).weaker fun vs H Q E h => by
  obtain ⟨c, p, kvs, b, e, h1, h2, h3, k⟩ := h
  exact ⟨c, p, kvs, b, e, h1, h2, h3, fun a G n s bk _ => k a G n s bk⟩
end
section
variable {w : World} {K : PySem.W.Frag} {mg : Str → Option Value} {base : Heap}
def sp_need_book (T : Txt K mg) : Sp := fun vs H Q E => ∃ y : V, vs = [y] ∧ OrBook T H y (fun _ => Q .non H) (E (.ref T.c_InvalidBook) none H)
theorem ok_need_book (T : Txt K mg) : FnG prog0 w K mg base (L2.CX prog0 w) 3 T.a_need_book T.d_need_book ["book"] (sp_need_book T) := by
  refine okGX T.F_need_book sc_need_book (fun vs H Q E h => ?_) (fun cdv A fs s H vs Q E hr h tk => ?_)
  · obtain ⟨y, rfl, _⟩ := h
    rfl
  obtain ⟨y, rfl, k⟩ := h
  have nd := sc_need_book.nd
  refine ⟨_, ((pss_one (ps_if (pt_not (pt_val (pe_callB call_isi (by rfl) T.z_isinstance (by decide +kernel) (pa_cons (pv 0) (pa_cons (pe_glob (v := .ref T.c_Book) rfl T.m_Book rfl) pa_nil))))) (pss_one (ps_raise rfl tk (pmk_make0 F.excBase_ValueError T.e_InvalidBook.q T.e_InvalidBook.m T.e_InvalidBook.kC (raises_own T.e_InvalidBook.ec.hs T.e_InvalidBook.ty) rfl pe_str))) pss_nil))), ?_⟩
  walk_at "s"
  rcases k with ⟨c, b2, rfl, bk2, k⟩ | ⟨ky, k⟩
  · obtain ⟨dx2, p2, o2, kvs2, ows2, g1, g2⟩ := id bk2
    refine l_isOwn T.o_Book g1 ?_
    walk_at "s"
    refine i_f rfl ?_
    walk_at "s"
    exact k
  · refine l_notOwn T.o_Book ky ?_
    walk_at "s"
    refine i_t rfl ?_
    walk_at "s"
    exact k
/-- without one command -/
def lessB (b : PB) (n : Str) : PB := b.filter fun y => !decide (V.str y.1 = V.str n)
theorem less_sub {b : PB} {n : Str} {x : Str × Nat × List Str} (h : x ∈ lessB b n) : x ∈ b := (List.mem_filter.mp h).1
theorem less_fst (b : PB) (n : Str) : (lessB b n).map (·.1) = (b.map (·.1)).filter fun m => !decide (V.str m = V.str n) := by
  unfold lessB
  rw [List.filter_map]
  rfl
theorem less_good {b : PB} {n : Str} (g : GoodB b) (h : b.length ≠ 1) (hn : n ∈ b.map (·.1)) : GoodB (lessB b n) := by
  have sub : (lessB b n).Sublist b := List.filter_sublist
  refine ⟨⟨(sub.map _).nodup g.raw.nd, fun x hx => g.raw.nm x (less_sub hx), fun x hx => g.raw.pr x (less_sub hx), ?_, Nat.le_trans sub.length_le g.raw.n6⟩, List.Pairwise.sublist (sub.map _) g.asc⟩
  have n1 := g.raw.n1
  have : ∃ x ∈ b, x.1 ≠ n := by
    match b, h, n1, g.raw.nd with
    | [_], h, _, _ => exact absurd rfl h
    | x :: y :: r, _, _, nd =>
      by_cases e : x.1 = n
      · refine ⟨y, List.mem_cons_of_mem _ List.mem_cons_self, fun e2 => ?_⟩
        have := (List.nodup_cons.mp (show (x.1 :: (y :: r).map (·.1)).Nodup from nd)).1
        exact this (by rw [e, ← e2]; exact List.mem_cons_self)
      · exact ⟨x, List.mem_cons_self, e⟩
  obtain ⟨x, hx, ne⟩ := this
  have m : x ∈ lessB b n := List.mem_filter.mpr ⟨hx, by rw [decide_eq_false (fun z => ne (V.str.inj z))]; rfl⟩
  exact List.length_pos_of_mem m
def sp_without (T : Txt K mg) : Sp := fun vs H Q E => ∃ (a : Addr) (b : PB) (x : V), vs = [.ref a, x] ∧ BookAt T H a b ∧ Found T x H E b fun e => (b.length = 1 → E (.ref T.c_InvalidOperation) none H) ∧ (b.length ≠ 1 → ∀ a' G, H a' = none → Same H G → BookAt T G a' (lessB b e.1) → Q (.ref a') G)
theorem ok_Book_without (T : Txt K mg) : FnG prog0 w K mg base (L2.CX prog0 w) 11 T.a_Book_without T.d_Book_without ["self", "command"] (sp_without T) := by
  have G_Book___contains__ : FnG prog0 w K mg base CX0 1 T.a_Book___contains__ T.d_Book___contains__ ["self", "value"] (sp_has T) := ok_Book___contains__ T
  have G_Book___len__ : FnG prog0 w K mg base CX0 1 T.a_Book___len__ T.d_Book___len__ ["self"] (sp_len T) := ok_Book___len__ T
  have G_book_with : FnG prog0 w K mg base CX0 9 T.a_book_with T.d_book_with ["pairs"] (sp_book_with T) := ok_book_with T
  refine okGX T.F_Book_without sc_Book_without (fun vs H Q E h => ?_) (fun cdv A fs s H vs Q E hr h tk => ?_)
  · obtain ⟨a, b, x, rfl, _⟩ := h
    rfl
  obtain ⟨a, b, x, rfl, bk, hx, k⟩ := h
  obtain ⟨dx, p, o, kvs, ows, h1, h2, h3, h4, h5, h6⟩ := id bk
  have nd := sc_Book_without.nd
  refine ⟨_, ((pss_cons (ps_if (pt_cmpR (op_ownNin T.D_Book___contains__ G_Book___contains__ (hr.down (by decide)) T.b_Book___contains__ pass0) (pv 1) (pv 0) (by rfl)) (pss_one (ps_raise rfl tk (pmk_makeI T.e_UnknownName.o T.e_UnknownName.iC T.e_UnknownName.tI (G_UnknownName (w := w) (base := base) T 0) (hr.down (by decide)) T.e_UnknownName.b rfl T.e_UnknownName.m (pv 1)))) pss_nil)
  (pss_cons (ps_if (pt_cmpR op_eq (pe_callB (call_ownLen T.D_Book___len__ G_Book___len__ (hr.down (by decide)) T.b_Book___len__ pass0) (by rfl) T.z_len (by decide +kernel) (pa_cons (pv 0) pa_nil)) pe_int (nomark _)) (pss_one (ps_raise rfl tk (pmk_make0 F.excBase_ValueError T.e_InvalidOperation.q T.e_InvalidOperation.m T.e_InvalidOperation.kC (raises_own T.e_InvalidOperation.ec.hs T.e_InvalidOperation.ty) rfl pe_str))) pss_nil)
  (pss_one (ps_ret (pe_callG G_book_with (hr.down (by decide)) rfl T.m_book_with T.F_book_with.kp T.b_book_with .nil pass0 (pa_cons (pe_lock (pe_dc (own := [("name", 2)]) rfl nd (pi_keys (pe_fld (pv 0) rfl)) (blkOk_by (own := [("name", 2)]) (N := ["self", "command", "name"]) (sc := defScope s_Book_without) (by decide +kernel)) (fun _ _ _ _ _ => pg_name (i := 2) nd rfl (Or.inl rfl)) (fun _ _ _ _ _ => by exact (pts_one (pt_cmpR op_ne (pv 2) (pv 1) (nomark _)))) (fun _ _ _ _ _ => by exact (pv 2)) (fun _ _ _ _ _ => by exact (pe_dget hr.hu (show PE _ _ (tFld K _ "_pairs") from (pe_fld (pv 0) rfl)) (pv 2) (fun _ _ => rfl))))) pa_nil))))))), ?_⟩
  walk_at "s"
  refine ⟨a, dx, _, rfl, h1, a, b, x, rfl, bk.rd, hx, _, rfl, ?_⟩
  rcases k with ⟨e, he, rfl, k1, k2⟩ | ⟨hb, sh, k⟩
  · rw [hasB_in he]
    walk_at "s"
    refine i_f rfl ?_
    walk_at "s"
    refine ⟨.ref a, rfl, a, dx, _, rfl, h1, a, b, rfl, bk.rd, _, rfl, by have := h6.raw.n6; omega, ?_⟩
    walk_at "s"
    refine i_dec (fun c => ?_) (fun c => ?_)
    · have c : (b.length : Int) = 1 := V.int.inj c
      walk_at "s"
      exact k1 (by omega)
    · have c : ¬ (b.length : Int) = 1 := fun z => c (by rw [z])
      walk_at "s"
      have nk : (kvs.map (·.1)).Nodup := by
        rw [h4.keys]
        exact List.pairwise_map.mpr (List.Pairwise.imp (fun n e => n (Sum.inr.inj e)) h6.raw.nd)
      have lx : ∀ od, locked H p od kvs a = some (.ins T.c_Book dx [("_pairs", .ref p), ("_outcomes", .ref o)]) := fun od => by
        have na : a ≠ p := fun z => by
          rw [z, h2] at h1
          cases h1
        show upd H p _ a = _
        rw [upd_ne na]
        exact h1
      refine l_dcKp (fun od R r => s_fld (s_var rfl (l_fld (lx od) T.o_Book.cl T.n_Book__pairs fld0 r))) h2 nk (by have := h4.len; have := h6.raw.n6; omega) (fun k => !decide (kV k = V.str e.1)) (fun k _ v => valV kvs k = some v) (fun k => ⟨fun _ _ _ _ h => h, fun _ _ _ _ _ _ _ h => h⟩)
        (fun od k hk G s R r => ?_) (fun od k hk _ G s R r => s_var rfl (r G (Same.refl G))) (fun od k hk _ G s R r => ?_) (fun D G ws hD s en eD => ?_)
      · obtain ⟨x, hx, rfl⟩ := key_of h4 hk
        refine s_test (s_op (s_var rfl (s_var rfl (l_ne rfl (l_bl ?_)))))
        exact r G (Same.refl G)
      · obtain ⟨x, hx, rfl⟩ := key_of h4 hk
        obtain ⟨v', ev, pv'⟩ := h4.find h6.raw.nd hx
        walk_at "s"
        refine l_fld (s _ _ (lx od)) T.o_Book.cl T.n_Book__pairs fld0 ?_
        walk_at "s"
        refine ⟨p, v', rfl, ?_, r v' G (Same.refl G) ev⟩
        rw [← ev]
        exact dgetF (at_lock s)
      · have rows : RowsAt H ws (lessB b e.1) := by
          refine rows_pick h4 h6.raw.nd (fun x hx => less_sub hx) ?_
          rw [less_fst]
          rw [h4.keys, List.filter_map] at en
          exact Paired.mono (fun k w a => ⟨a.1.symm, a.2⟩) (paired_of_map en)
        refine ⟨D, ws, lessB b e.1, rfl, eD, rows.same s, less_good h6 (by omega) (List.mem_map_of_mem he), fun a' G2 na sa bk2 => ?_⟩
        refine k2 (by omega) a' G2 ?_ (s.trans sa) bk2
        cases e0 : H a' with
        | none => rfl
        | some u =>
          rw [s _ _ e0] at na
          cases na
  · rw [hb]
    walk_at "s"
    refine i_t rfl ?_
    walk_at "s"
    exact ⟨fun a n => shw_u sh a _ n, fun d n => k d n⟩
end
section
variable {w : World} {K : PySem.W.Frag} {mg : Str → Option Value} {base : Heap}
/-- the command n of b stands in c with the same pair -/
def wiB (b c : PB) (n : Str) : Bool := decide (∀ e ∈ b, e.1 = n → e ∈ c)
def wiV (b c : PB) : V → V := fun x => match x with
  | .str n => .bl (wiB b c n)
  | _ => .non
theorem wi_of {b c : PB} (nd : (b.map (·.1)).Nodup) {e : Str × Nat × List Str} (he : e ∈ b) : wiB b c e.1 = decide (e ∈ c) := by
  unfold wiB
  by_cases h : e ∈ c
  · rw [decide_eq_true h, decide_eq_true]
    intro x hx ex
    rw [pb_one nd hx he ex]
    exact h
  · rw [decide_eq_false h, decide_eq_false fun z => h (z e he rfl)]
theorem wi_map {b c : PB} : ∀ l : List Str, ((l.map V.str).filter fun _ => true).map (wiV b c) = (l.map (wiB b c)).map V.bl := fun l => by
  rw [List.filter_eq_self.mpr (fun _ _ => rfl), List.map_map, List.map_map]
  rfl
theorem wi_all {b c : PB} (nd : (b.map (·.1)).Nodup) : ((b.map (·.1)).map (wiB b c)).all id = decide (∀ e ∈ b, e ∈ c) := by
  rw [List.map_map, List.all_map, Bool.eq_iff_iff, List.all_eq_true, decide_eq_true_iff]
  constructor
  · intro h e he
    have := h e he
    have this : wiB b c e.1 = true := this
    rw [wi_of nd he] at this
    exact of_decide_eq_true this
  · intro h e he
    show wiB b c e.1 = true
    rw [wi_of nd he]
    exact decide_eq_true (h e he)
theorem in_fst {c : PB} {e : Str × Nat × List Str} (h : e ∈ c) : e.1 ∈ c.map (·.1) := List.mem_map_of_mem h
def sp_is_within (T : Txt K mg) : Sp := fun vs H Q E => ∃ (a : Addr) (b : PB) (y : V), vs = [.ref a, y] ∧ BookAt T H a b ∧ OrBook T H y (fun c => ∀ G, Same H G → Q (.bl (decide (∀ e ∈ b, e ∈ c))) G) (E (.ref T.c_InvalidBook) none H)
theorem ok_Book_is_within (T : Txt K mg) : FnG prog0 w K mg base (L2.CX prog0 w) 5 T.a_Book_is_within T.d_Book_is_within ["self", "other"] (sp_is_within T) := by
  have G_need_book : FnG prog0 w K mg base (L2.CX prog0 w) 3 T.a_need_book T.d_need_book ["book"] (sp_need_book T) := ok_need_book T
  have G_Book___contains__ : FnG prog0 w K mg base CX0 1 T.a_Book___contains__ T.d_Book___contains__ ["self", "value"] (sp_has T) := ok_Book___contains__ T
  have G_Book___getitem__ : FnG prog0 w K mg base (L2.CX prog0 w) 3 T.a_Book___getitem__ T.d_Book___getitem__ ["self", "command"] (sp_getitem T) := ok_Book___getitem__ T
  refine okGX T.F_Book_is_within sc_Book_is_within (fun vs H Q E h => ?_) (fun cdv A fs s H vs Q E hr h tk => ?_)
  · obtain ⟨a, b, y, rfl, _⟩ := h
    rfl
  obtain ⟨a, b, y, rfl, bk, k⟩ := h
  obtain ⟨dx, p, o, kvs, ows, h1, h2, h3, h4, h5, h6⟩ := id bk
  have nd := sc_Book_is_within.nd
  refine ⟨_, ((pss_cons (ps_expr (pe_callGS G_need_book (hr.down (by decide)) rfl T.m_need_book T.F_need_book.kp T.b_need_book (fun σ => passAt tk σ) (pa_cons (pv 1) pa_nil)))
  (pss_one (ps_ret (pe_callB (cr_all rfl) (by rfl) T.z_all (by decide +kernel) (pa_cons (pe_lock (pe_lc (own := [("command", 2)]) rfl nd (pi_keys (pe_fld (pv 0) rfl)) (blkOk_by (own := [("command", 2)]) (N := ["self", "other", "command"]) (sc := defScope s_Book_is_within) (by decide +kernel)) (fun _ _ _ _ _ => pg_name (i := 2) nd rfl (Or.inl rfl)) (fun _ _ _ _ _ => pts_nil) (fun _ _ _ _ _ => by exact (pe_and (pe_cmpR (op_ownIn T.D_Book___contains__ G_Book___contains__ (hr.down (by decide)) T.b_Book___contains__ pass0) (pv 2) (pv 1) (by rfl)) (pe_one (pe_cmpR (show OpR _ _ (rEqD K) from (op_eqD hr.r.units)) (pe_ownAt T.D_Book___getitem__ (fun_fi T.F_Book___getitem__) G_Book___getitem__ (hr.down (by decide)) T.b_Book___getitem__ passN (pv 1) (pv 2)) (pe_ownAt T.D_Book___getitem__ (fun_fi T.F_Book___getitem__) G_Book___getitem__ (hr.down (by decide)) T.b_Book___getitem__ passN (pv 0) (pv 2)) (nomark _))))))) pa_nil)))))), ?_⟩
  walk_at "s"
  refine s_callS ?_
  walk_at "s"
  rcases k with ⟨c, b2, rfl, bk2, k⟩ | ⟨ky, k⟩
  · refine ⟨_, rfl, Or.inl ⟨c, b2, rfl, bk2, ?_⟩⟩
    walk_at "s"
    have lx : ∀ od, locked H p od kvs a = some (.ins T.c_Book dx [("_pairs", .ref p), ("_outcomes", .ref o)]) := fun od => by
      have na : a ≠ p := fun z => by
        rw [z, h2] at h1
        cases h1
      show upd H p _ a = _
      rw [upd_ne na]
      exact h1
    obtain ⟨dx2, p2, o2, kvs2, ows2, g1, _⟩ := id bk2
    have lc : ∀ od, locked H p od kvs c = some (.ins T.c_Book dx2 [("_pairs", .ref p2), ("_outcomes", .ref o2)]) := fun od => by
      have na : c ≠ p := fun z => by
        rw [z, h2] at g1
        cases g1
      show upd H p _ c = _
      rw [upd_ne na]
      exact g1
    refine l_lcK (fun od R r => s_fld (s_var rfl (l_fld (lx od) T.o_Book.cl T.n_Book__pairs fld0 r))) h2 (fun _ => true) (wiV b b2) (by have := h4.len; have := h6.raw.n6; omega) (fun od k hk G s R r => s_yes (r G (Same.refl G))) (fun od k hk _ G s R r => ?_) (fun D G hD s eD => ?_)
    · obtain ⟨x, hx, rfl⟩ := key_of h4 hk
      have bs : BookRd T G a b := (bk.rd.lock h2).same s
      have b2s : BookRd T G c b2 := (bk2.lock h2).same s
      have r : R (.bl (wiB b b2 x.1)) G := r G (Same.refl G)
      rw [wi_of h6.raw.nd hx] at r
      have ga := s _ _ (lx od)
      have gc := s _ _ (lc od)
      walk_at "s"
      refine ⟨c, dx2, _, rfl, gc, c, b2, .str x.1, rfl, b2s, Or.inl ⟨_, rfl⟩, _, rfl, _, rfl, ?_⟩
      show if decide (x.1 ∈ b2.map (·.1)) = true then _ else _
      refine i_dec (fun hin => ?_) (fun hin => ?_)
      · obtain ⟨e, he, ee⟩ := List.mem_map.mp hin
        walk_at "s"
        refine ⟨c, dx2, _, rfl, gc, c, b2, .str x.1, rfl, b2s, Or.inl ⟨_, rfl⟩, Or.inl ⟨e, he, by rw [ee], fun v1 p1 => ?_⟩⟩
        walk_at "s"
        refine ⟨a, dx, _, rfl, ga, a, b, .str x.1, rfl, bs, Or.inl ⟨_, rfl⟩, Or.inl ⟨x, hx, rfl, fun v2 p2 => ?_⟩⟩
        refine l_eqD (dp_pair p1) (dp_pair p2) (pair_shaped (b2s.good.raw.pr e he)) (pair_shaped (h6.raw.pr x hx)) ?_
        rw [eqv_pair]
        have e2 : decide (e.2 = x.2) = decide (x ∈ b2) := by
          by_cases q : e.2 = x.2
          · have : e = x := Prod.ext ee q
            rw [decide_eq_true q, decide_eq_true (this ▸ he)]
          · rw [decide_eq_false q, decide_eq_false fun z => q (by rw [pb_one b2s.good.raw.nd he z ee])]
        show R (.bl (decide (e.2 = x.2))) G
        rw [e2]
        exact r
      · rw [decide_eq_false fun z => hin (in_fst z)] at r
        exact r
    · walk_at "s"
      have ek : (kvs.map fun p => kV p.1) = (b.map (·.1)).map V.str := by
        have e := congrArg (List.map kV) h4.keys
        rw [List.map_map, List.map_map] at e
        exact e
      rw [ek, wi_map] at eD
      refine l_all (SqL.of eD) ?_
      rw [wi_all h6.raw.nd]
      exact k G s
  · exact ⟨_, rfl, Or.inr ⟨ky, k⟩⟩
end
/-! ### both together -/
def addB (b : PB) (x : Str × Nat × List Str) : PB := if x.1 ∈ b.map (·.1) then b else b ++ [x]
def jn (b c : PB) : PB := c.foldl addB b
def Clash (b c : PB) : Prop := ∃ e ∈ b, e.1 ∈ c.map (·.1) ∧ e ∉ c
instance {b c : PB} : Decidable (Clash b c) := inferInstanceAs (Decidable (∃ e ∈ b, e.1 ∈ c.map (·.1) ∧ e ∉ c))
theorem add_nodup {b : PB} {x : Str × Nat × List Str} (nd : (b.map (·.1)).Nodup) : ((addB b x).map (·.1)).Nodup := by
  unfold addB
  by_cases h : x.1 ∈ b.map (·.1)
  · rw [if_pos h]
    exact nd
  · rw [if_neg h, List.map_append, List.nodup_append]
    refine ⟨nd, List.pairwise_singleton _ _, fun a ha b' hb => ?_⟩
    have hb : b' ∈ [x.1] := hb
    rw [List.mem_singleton.mp hb]
    exact fun e => h (e ▸ ha)
theorem jn_nodup : ∀ {c b : PB}, (b.map (·.1)).Nodup → ((jn b c).map (·.1)).Nodup
  | [], _, nd => nd
  | x :: c, b, nd => jn_nodup (c := c) (b := addB b x) (add_nodup nd)
theorem add_mem {b : PB} {x y : Str × Nat × List Str} (h : y ∈ addB b x) : y ∈ b ∨ y = x := by
  unfold addB at h
  by_cases e : x.1 ∈ b.map (·.1)
  · rw [if_pos e] at h
    exact Or.inl h
  · rw [if_neg e] at h
    rcases List.mem_append.mp h with h | h
    · exact Or.inl h
    · exact Or.inr (List.mem_singleton.mp h)
theorem jn_mem : ∀ {c b : PB} {y : Str × Nat × List Str}, y ∈ jn b c → y ∈ b ∨ y ∈ c
  | [], _, _, h => Or.inl h
  | x :: c, b, y, h => by
    rcases jn_mem (c := c) (b := addB b x) h with h | h
    · rcases add_mem h with h | rfl
      · exact Or.inl h
      · exact Or.inr List.mem_cons_self
    · exact Or.inr (List.mem_cons_of_mem _ h)
theorem add_in {b : PB} {x y : Str × Nat × List Str} (h : y ∈ b) : y ∈ addB b x := by
  unfold addB
  split
  · exact h
  · exact List.mem_append_left _ h
theorem jn_left : ∀ {c b : PB} {y : Str × Nat × List Str}, y ∈ b → y ∈ jn b c
  | [], _, _, h => h
  | x :: c, b, _, h => jn_left (c := c) (b := addB b x) (add_in h)
theorem RawB.join {b c : PB} (g : RawB b) (h : RawB c) (l : (jn b c).length ≤ 6) : RawB (jn b c) := by
  refine ⟨jn_nodup g.nd, fun x hx => ?_, fun x hx => ?_, ?_, l⟩
  · rcases jn_mem hx with hx | hx
    · exact g.nm x hx
    · exact h.nm x hx
  · rcases jn_mem hx with hx | hx
    · exact g.pr x hx
    · exact h.pr x hx
  · match b, g.n1 with
    | x :: r, _ => exact List.length_pos_of_mem (jn_left (c := c) (b := x :: r) List.mem_cons_self)
theorem mem_of_valV {kvs : List (Key × V)} {k : Key} : (kvs.any fun kv => decide (kv.1 = k)) = true ↔ k ∈ kvs.map (·.1) := by
  rw [List.any_eq_true]
  constructor
  · rintro ⟨kv, hkv, e⟩
    rw [← of_decide_eq_true e]
    exact List.mem_map_of_mem hkv
  · intro h
    obtain ⟨kv, hkv, e⟩ := List.mem_map.mp h
    exact ⟨kv, hkv, decide_eq_true e⟩
theorem rows_put {H : Hp} {x : Str × Nat × List Str} {v : V} (hv : PairV H v x.2.1 x.2.2) : ∀ {kvs : List (Key × V)} {b : PB}, RowsAt H kvs b → (b.map (·.1)).Nodup → x ∈ b → RowsAt H (kvs.map fun kv => if kv.1 = Sum.inr x.1 then (kv.1, v) else kv) b
  | [], [], _, _, _ => .nil
  | [], _ :: _, h, _, _ => nomatch h
  | _ :: _, [], h, _, _ => nomatch h
  | kv :: kvs, y :: b, .cons a t, nd, hx => by
    obtain ⟨n1, n2⟩ := List.nodup_cons.mp (show (y.1 :: b.map (·.1)).Nodup from nd)
    rw [List.map_cons]
    by_cases e : y = x
    · subst e
      rw [if_pos a.1]
      refine .cons ⟨a.1, hv⟩ ?_
      have same : (kvs.map fun kv => if kv.1 = Sum.inr y.1 then (kv.1, v) else kv) = kvs := by
        refine (List.map_congr_left fun kv' hkv => ?_).trans (List.map_id kvs)
        have m : kv'.1 ∈ kvs.map (·.1) := List.mem_map_of_mem hkv
        rw [RowsAt.keys t] at m
        obtain ⟨n, hn, en⟩ := List.mem_map.mp m
        rw [if_neg fun z => n1 (by
          have := en.trans z
          rw [← Sum.inr.inj this]
          exact hn)]
        rfl
      rw [same]
      exact t
    · have hx : x ∈ b := (List.mem_cons.mp hx).resolve_left fun z => e z.symm
      rw [if_neg fun z => n1 (by
        have := a.1.symm.trans z
        rw [Sum.inr.inj this]
        exact List.mem_map_of_mem hx)]
      exact .cons a (rows_put hv t n2 hx)
theorem paired_app {α β : Type} {F : α → β → Prop} : ∀ {l1 l2 : List α} {m1 m2 : List β}, Paired F l1 m1 → Paired F l2 m2 → Paired F (l1 ++ l2) (m1 ++ m2)
  | [], _, [], _, _, h => h
  | [], _, _ :: _, _, h, _ => nomatch h
  | _ :: _, _, [], _, h, _ => nomatch h
  | _ :: _, _, _ :: _, _, .cons a t, h => .cons a (paired_app t h)
theorem rows_add {H : Hp} {x : Str × Nat × List Str} {v : V} {kvs : List (Key × V)} {b : PB} (hv : PairV H v x.2.1 x.2.2) (r : RowsAt H kvs b) (nd : (b.map (·.1)).Nodup) (no : x.1 ∈ b.map (·.1) → x ∈ b) : RowsAt H (putK kvs (.inr x.1) v) (addB b x) := by
  have iff : (.inr x.1 : Key) ∈ kvs.map (·.1) ↔ x.1 ∈ b.map (·.1) := by
    rw [r.keys]
    constructor
    · intro h
      obtain ⟨n, hn, e⟩ := List.mem_map.mp h
      rw [← Sum.inr.inj e]
      exact hn
    · exact fun h => List.mem_map_of_mem h
  unfold putK addB
  by_cases h : x.1 ∈ b.map (·.1)
  · rw [if_pos h, if_pos (mem_of_valV.mpr (iff.mpr h))]
    exact rows_put hv r nd (no h)
  · rw [if_neg h, if_neg fun z => h (iff.mp (mem_of_valV.mp z))]
    exact paired_app r (.cons ⟨rfl, hv⟩ .nil)
theorem rows_join {H : Hp} : ∀ {lvs : List (Key × V)} {c : PB} {kvs : List (Key × V)} {b : PB}, RowsAt H lvs c → RowsAt H kvs b → (b.map (·.1)).Nodup → (c.map (·.1)).Nodup → (∀ e ∈ c, e.1 ∈ b.map (·.1) → e ∈ b) → RowsAt H (mergeK kvs lvs) (jn b c)
  | [], [], _, _, _, r, _, _, _ => r
  | [], _ :: _, _, _, h, _, _, _, _ => nomatch h
  | _ :: _, [], _, _, h, _, _, _, _ => nomatch h
  | (k, v) :: lvs, x :: c, kvs, b, .cons a t, r, nb, nc, no => by
    obtain ⟨n1, n2⟩ := List.nodup_cons.mp (show (x.1 :: c.map (·.1)).Nodup from nc)
    have ek : k = .inr x.1 := a.1
    subst ek
    refine rows_join (kvs := putK kvs (.inr x.1) v) (b := addB b x) t (rows_add a.2 r nb (no x List.mem_cons_self)) (add_nodup nb) n2 fun e he hin => ?_
    obtain ⟨y, hy, ey⟩ := List.mem_map.mp hin
    rcases add_mem hy with hy | rfl
    · exact add_in (no e (List.mem_cons_of_mem _ he) (ey ▸ List.mem_map_of_mem hy))
    · exact absurd (by rw [ey]; exact List.mem_map_of_mem he) n1
theorem no_clash {b c : PB} (gc : (c.map (·.1)).Nodup) (h : ¬ Clash b c) : ∀ e ∈ c, e.1 ∈ b.map (·.1) → e ∈ b := fun e he hin => by
  obtain ⟨y, hy, ey⟩ := List.mem_map.mp hin
  by_cases hc : y ∈ c
  · rw [← pb_one gc hc he ey]
    exact hy
  · exact absurd ⟨y, hy, by rw [ey]; exact List.mem_map_of_mem he, hc⟩ h
theorem merge_nil {kvs : List (Key × V)} (nd : (kvs.map (·.1)).Nodup) : mergeK [] kvs = kvs := by
  suffices h : ∀ (kvs acc : List (Key × V)), ((acc ++ kvs).map (·.1)).Nodup → mergeK acc kvs = acc ++ kvs from h kvs [] nd
  intro kvs
  induction kvs with
  | nil => intro acc _; rw [List.append_nil]; rfl
  | cons p r ih =>
    intro acc nd
    have fresh : ¬ (acc.any fun kv => decide (kv.1 = p.1)) = true := fun z => by
      rw [List.map_append, List.nodup_append] at nd
      exact nd.2.2 p.1 (mem_of_valV.mp z) p.1 List.mem_cons_self rfl
    have e : mergeK acc (p :: r) = mergeK (acc ++ [p]) r := by
      show mergeK (putK acc p.1 p.2) r = _
      unfold putK
      rw [if_neg fresh]
    rw [e, ih (acc ++ [p]) (by rw [List.append_assoc]; exact nd), List.append_assoc]
    rfl
section
variable {w : World} {K : PySem.W.Frag} {mg : Str → Option Value} {base : Heap}
def clB (b c : PB) (n : Str) : Bool := decide (∃ e ∈ b, e.1 = n ∧ n ∈ c.map (·.1) ∧ e ∉ c)
def clV (b c : PB) : V → V := fun x => match x with
  | .str n => .bl (clB b c n)
  | _ => .non
theorem cl_of {b c : PB} (nd : (b.map (·.1)).Nodup) {e : Str × Nat × List Str} (he : e ∈ b) : clB b c e.1 = (decide (e.1 ∈ c.map (·.1)) && !decide (e ∈ c)) := by
  unfold clB
  by_cases h1 : e.1 ∈ c.map (·.1)
  · rw [decide_eq_true h1, Bool.true_and]
    by_cases h2 : e ∈ c
    · rw [decide_eq_true h2]
      exact decide_eq_false fun ⟨x, hx, ex, _, nx⟩ => nx (by rw [pb_one nd hx he ex]; exact h2)
    · rw [decide_eq_false h2]
      exact decide_eq_true ⟨e, he, rfl, h1, h2⟩
  · rw [decide_eq_false h1, Bool.false_and]
    exact decide_eq_false fun ⟨x, hx, ex, h, _⟩ => h1 h
theorem cl_map {b c : PB} : ∀ l : List Str, ((l.map V.str).filter fun _ => true).map (clV b c) = (l.map (clB b c)).map V.bl := fun l => by
  rw [List.filter_eq_self.mpr (fun _ _ => rfl), List.map_map, List.map_map]
  rfl
theorem cl_any {b c : PB} (nd : (b.map (·.1)).Nodup) : ((b.map (·.1)).map (clB b c)).any id = decide (Clash b c) := by
  rw [List.map_map, List.any_map, Bool.eq_iff_iff, List.any_eq_true, decide_eq_true_iff]
  constructor
  · rintro ⟨e, he, h⟩
    have h : clB b c e.1 = true := h
    rw [cl_of nd he, Bool.and_eq_true, Bool.not_eq_true'] at h
    exact ⟨e, he, of_decide_eq_true h.1, of_decide_eq_false h.2⟩
  · rintro ⟨e, he, h1, h2⟩
    refine ⟨e, he, ?_⟩
    show clB b c e.1 = true
    rw [cl_of nd he, decide_eq_true h1, decide_eq_false h2]
    rfl
def sp_or (T : Txt K mg) : Sp := fun vs H Q E => ∃ (a : Addr) (b : PB) (y : V), vs = [.ref a, y] ∧ BookAt T H a b ∧ OrBook T H y (fun c => (Clash b c ∨ 6 < (jn b c).length → ∀ G, Same H G → E (.ref T.c_InvalidOperation) none G) ∧
  (¬ Clash b c → (jn b c).length ≤ 6 → ∀ a' G, H a' = none → Same H G → BookAt T G a' (sortB (jn b c)) → Q (.ref a') G)) (E (.ref T.c_InvalidOperation) none H)
theorem none_same {H G : Hp} {a : Addr} (s : Same H G) (n : G a = none) : H a = none := by
  cases e0 : H a with
  | none => rfl
  | some u =>
    rw [s _ _ e0] at n
    cases n
theorem ok_Book___or__ (T : Txt K mg) : FnG prog0 w K mg base (L2.CX prog0 w) 11 T.a_Book___or__ T.d_Book___or__ ["self", "other"] (sp_or T) := by
  have G_Book___contains__ : FnG prog0 w K mg base CX0 1 T.a_Book___contains__ T.d_Book___contains__ ["self", "value"] (sp_has T) := ok_Book___contains__ T
  have G_Book___getitem__ : FnG prog0 w K mg base (L2.CX prog0 w) 3 T.a_Book___getitem__ T.d_Book___getitem__ ["self", "command"] (sp_getitem T) := ok_Book___getitem__ T
  have G_book_with : FnG prog0 w K mg base CX0 9 T.a_book_with T.d_book_with ["pairs"] (sp_book_with T) := ok_book_with T
  refine okGX T.F_Book___or__ sc_Book___or__ (fun vs H Q E h => ?_) (fun cdv A fs s H vs Q E hr h tk => ?_)
  · obtain ⟨a, b, y, rfl, _⟩ := h
    rfl
  obtain ⟨a, b, y, rfl, bk, k⟩ := h
  obtain ⟨dx, p, o, kvs, ows, h1, h2, h3, h4, h5, h6⟩ := id bk
  have nd := sc_Book___or__.nd
  refine ⟨_, ((pss_cons (ps_if (pt_not (pt_val (pe_callB call_isi (by rfl) T.z_isinstance (by decide +kernel) (pa_cons (pv 1) (pa_cons (pe_glob (v := .ref T.c_Book) rfl T.m_Book rfl) pa_nil))))) (pss_one (ps_raise rfl tk (pmk_make0 F.excBase_ValueError T.e_InvalidOperation.q T.e_InvalidOperation.m T.e_InvalidOperation.kC (raises_own T.e_InvalidOperation.ec.hs T.e_InvalidOperation.ty) rfl pe_str))) pss_nil)
  (pss_cons (ps_if (pt_val (pe_callB (cr_any rfl) (by rfl) T.z_any (by decide +kernel) (pa_cons (pe_lock (pe_lc (own := [("command", 3)]) rfl nd (pi_keys (pe_fld (pv 0) rfl)) (blkOk_by (own := [("command", 3)]) (N := ["self", "other", "pairs", "command"]) (sc := defScope s_Book___or__) (by decide +kernel)) (fun _ _ _ _ _ => pg_name (i := 3) nd rfl (Or.inl rfl)) (fun _ _ _ _ _ => pts_nil) (fun _ _ _ _ _ => by exact (pe_and (pe_cmpR (op_ownIn T.D_Book___contains__ G_Book___contains__ (hr.down (by decide)) T.b_Book___contains__ pass0) (pv 3) (pv 1) (by rfl)) (pe_one (pe_cmpR (show OpR _ _ (rNeD K) from (op_neD hr.r.units)) (pe_ownAt T.D_Book___getitem__ (fun_fi T.F_Book___getitem__) G_Book___getitem__ (hr.down (by decide)) T.b_Book___getitem__ passN (pv 1) (pv 3)) (pe_ownAt T.D_Book___getitem__ (fun_fi T.F_Book___getitem__) G_Book___getitem__ (hr.down (by decide)) T.b_Book___getitem__ passN (pv 0) (pv 3)) (nomark _))))))) pa_nil))) (pss_one (ps_raise rfl tk (pmk_make0 F.excBase_ValueError T.e_InvalidOperation.q T.e_InvalidOperation.m T.e_InvalidOperation.kC (raises_own T.e_InvalidOperation.ec.hs T.e_InvalidOperation.ty) rfl pe_str))) pss_nil)
  (pss_cons (ps_set (i := 2) nd rfl (Or.inr rfl) (pe_dm2 (pe_fld (pv 0) rfl) (pe_fld (pv 1) rfl)))
  (pss_cons (ps_if (pt_cmpR op_gt (pe_callB c_lenD (by rfl) T.z_len (by decide +kernel) (pa_cons (pv 2) pa_nil)) (pe_glob rfl T.m_MAX_COMMANDS T.r_MAX_COMMANDS) (nomark _)) (pss_one (ps_raise rfl tk (pmk_make0 F.excBase_ValueError T.e_InvalidOperation.q T.e_InvalidOperation.m T.e_InvalidOperation.kC (raises_own T.e_InvalidOperation.ec.hs T.e_InvalidOperation.ty) rfl (pe_joined (PJ.cons pe_str (PJ.cons (pe_fmt (pe_glob rfl T.m_MAX_COMMANDS T.r_MAX_COMMANDS)) (PJ.cons pe_str PJ.nil))))))) pss_nil)
  (pss_one (ps_ret (pe_callG G_book_with (hr.down (by decide)) rfl T.m_book_with T.F_book_with.kp T.b_book_with .nil pass0 (pa_cons (pe_dc (own := [("command", 3)]) rfl nd (pi_list (pe_callB (call_sortedK rfl) (by rfl) T.z_sorted (by decide +kernel) (pa_cons (pv 2) pa_nil))) (blkOk_by (own := [("command", 3)]) (N := ["self", "other", "pairs", "command"]) (sc := defScope s_Book___or__) (by decide +kernel)) (fun _ _ _ _ _ => pg_name (i := 3) nd rfl (Or.inl rfl)) (fun _ _ _ _ _ => pts_nil) (fun _ _ _ _ _ => by exact (pv 3)) (fun _ _ _ _ _ => by exact (pe_dget hr.hu (pv 2) (pv 3) (fun _ _ => rfl)))) pa_nil))))))))), ?_⟩
  walk_at "s"
  rcases k with ⟨c, b2, rfl, bk2, k1, k2⟩ | ⟨ky, k⟩
  · obtain ⟨dx2, p2, o2, kvs2, ows2, g1, g2, g3, g4, g5, g6⟩ := id bk2
    refine l_isOwn T.o_Book g1 ?_
    walk_at "s"
    refine i_f rfl ?_
    walk_at "s"
    have lx : ∀ od, locked H p od kvs a = some (.ins T.c_Book dx [("_pairs", .ref p), ("_outcomes", .ref o)]) := fun od => by
      have na : a ≠ p := fun z => by
        rw [z, h2] at h1
        cases h1
      show upd H p _ a = _
      rw [upd_ne na]
      exact h1
    have lc : ∀ od, locked H p od kvs c = some (.ins T.c_Book dx2 [("_pairs", .ref p2), ("_outcomes", .ref o2)]) := fun od => by
      have na : c ≠ p := fun z => by
        rw [z, h2] at g1
        cases g1
      show upd H p _ c = _
      rw [upd_ne na]
      exact g1
    refine l_lcK (fun od R r => s_fld (s_var rfl (l_fld (lx od) T.o_Book.cl T.n_Book__pairs fld0 r))) h2 (fun _ => true) (clV b b2) (by have := h4.len; have := h6.raw.n6; omega) (fun od k hk G s R r => s_yes (r G (Same.refl G))) (fun od k hk _ G s R r => ?_) (fun D G hD s eD => ?_)
    · obtain ⟨x, hx, rfl⟩ := key_of h4 hk
      have bs : BookRd T G a b := (bk.rd.lock h2).same s
      have b2s : BookRd T G c b2 := (bk2.lock h2).same s
      have r : R (.bl (clB b b2 x.1)) G := r G (Same.refl G)
      rw [cl_of h6.raw.nd hx] at r
      have ga := s _ _ (lx od)
      have gc := s _ _ (lc od)
      walk_at "s"
      refine ⟨c, dx2, _, rfl, gc, c, b2, .str x.1, rfl, b2s, Or.inl ⟨_, rfl⟩, _, rfl, _, rfl, ?_⟩
      show if decide (x.1 ∈ b2.map (·.1)) = true then _ else _
      refine i_dec (fun hin => ?_) (fun hin => ?_)
      · obtain ⟨e, he, ee⟩ := List.mem_map.mp hin
        walk_at "s"
        refine ⟨c, dx2, _, rfl, gc, c, b2, .str x.1, rfl, b2s, Or.inl ⟨_, rfl⟩, Or.inl ⟨e, he, by rw [ee], fun v1 p1 => ?_⟩⟩
        walk_at "s"
        refine ⟨a, dx, _, rfl, ga, a, b, .str x.1, rfl, bs, Or.inl ⟨_, rfl⟩, Or.inl ⟨x, hx, rfl, fun v2 p2 => ?_⟩⟩
        refine l_neD (dp_pair p1) (dp_pair p2) (pair_shaped (g6.raw.pr e he)) (pair_shaped (h6.raw.pr x hx)) ?_
        rw [eqv_pair]
        have e2 : decide (e.2 = x.2) = decide (x ∈ b2) := by
          by_cases q : e.2 = x.2
          · have : e = x := Prod.ext ee q
            rw [decide_eq_true q, decide_eq_true (this ▸ he)]
          · rw [decide_eq_false q, decide_eq_false fun z => q (by rw [pb_one g6.raw.nd he z ee])]
        show R (.bl (!decide (e.2 = x.2))) G
        rw [e2]
        rw [decide_eq_true hin, Bool.true_and] at r
        exact r
      · rw [decide_eq_false hin, Bool.false_and] at r
        exact r
    · walk_at "s"
      have ek : (kvs.map fun p => kV p.1) = (b.map (·.1)).map V.str := by
        have e := congrArg (List.map kV) h4.keys
        rw [List.map_map, List.map_map] at e
        exact e
      rw [ek, cl_map] at eD
      refine l_any (SqL.of eD) ?_
      rw [cl_any h6.raw.nd]
      walk_at "s"
      refine i_dec (fun cl => ?_) (fun cl => ?_)
      · walk_at "s"
        exact k1 (Or.inl cl) G s
      · walk_at "s"
        intro q nq
        have sq := Same.new (o := .dK []) s nq
        walk_at "s"
        refine l_fld (sq _ _ h1) T.o_Book.cl T.n_Book__pairs fld0 ?_
        have qp : p ≠ q := ne_of_none (s _ _ h2) nq
        have l1 := h4.len
        have l2 := h6.raw.n6
        have m1 : p2 ≠ q := by
          rcases rd_same s g2 with z | ⟨_, z⟩
          · exact ne_of_none z nq
          · exact ne_of_none z nq
        refine ⟨upd_same, p, kvs, rfl, qp, Or.inl (sq _ _ h2), by omega, ?_⟩
        have sq2 := Same.setNew (o := .dK (mergeK [] kvs)) sq (none_same s nq)
        walk_at "s"
        refine l_fld (sq2 _ _ g1) T.o_Book.cl T.n_Book__pairs fld0 ?_
        have l3 := g4.len
        have l4 := g6.raw.n6
        refine ⟨upd_same, p2, kvs2, rfl, m1, rd_same sq2 g2, by omega, ?_⟩
        have sq3 := Same.setNew (o := .dK (mergeK (mergeK [] kvs) kvs2)) sq2 (none_same s nq)
        have nk : (kvs.map (·.1)).Nodup := by
          rw [h4.keys]
          exact List.pairwise_map.mpr (List.Pairwise.imp (fun n e => n (Sum.inr.inj e)) h6.raw.nd)
        rw [merge_nil nk] at sq3 ⊢
        have rows : RowsAt H (mergeK kvs kvs2) (jn b b2) := rows_join g4 h4 h6.raw.nd g6.raw.nd (no_clash g6.raw.nd cl)
        have lr := rows.len
        generalize hG : upd (upd (upd G q (.dK [])) q (.dK kvs)) q (.dK (mergeK kvs kvs2)) = G3 at sq3 ⊢
        have eq : G3 q = some (.dK (mergeK kvs kvs2)) := by
          rw [← hG]
          exact upd_same
        walk_at "s"
        refine l_lenD eq ?_
        rw [lr]
        walk_at "s"
        refine i_dec (fun big => ?_) (fun big => ?_)
        · walk_at "s"
          have l9 : ((("a book has at most " : Str))).length = 19 := by decide +kernel
          refine ⟨_, rfl, by decide +kernel, ?_⟩
          show tFmt _ _ _ _
          refine Or.inr ⟨_, rfl, by decide +kernel, _, rfl, by decide +kernel, ?_⟩
          refine ⟨_, rfl, by decide +kernel, ?_⟩
          exact k1 (Or.inr (by omega)) G3 sq3
        · have raw : RawB (jn b b2) := h6.raw.join g6.raw (by omega)
          walk_at "s"
          refine l_sortD (Or.inl eq) rows.keys (by rw [List.length_map]; have := raw.n6; omega) fun t G4 nt st et => ?_
          refine l_dcLp (SqL.of et) ((sortS_perm _).nodup_iff.mpr raw.nd) (by rw [(sortS_perm _).length_eq, List.length_map]; have := raw.n6; omega) (fun _ => true) (fun k _ v => valV (mergeK kvs kvs2) (.inr k) = some v) (fun k => ⟨fun _ _ _ _ h => h, fun _ _ _ _ _ _ _ h => h⟩)
            (fun k hk G3 s3 R r => s_yes (r G3 (Same.refl G3))) (fun k hk _ G3 s3 R r => s_var rfl (r G3 (Same.refl G3))) (fun k hk _ G5 s5 R r => ?_) (fun D G5 ws hD s5 en e5 => ?_)
          · have hk : k ∈ (jn b b2).map (·.1) := (sortS_perm _).mem_iff.mp hk
            obtain ⟨x, hx, rfl⟩ := List.mem_map.mp hk
            obtain ⟨v', ev, pv'⟩ := rows.find raw.nd hx
            walk_at "s"
            refine ⟨q, v', rfl, ?_, r v' G5 (Same.refl G5) ev⟩
            rw [← ev]
            exact DGet.k (k := .inr x.1) (s5 _ _ (st _ _ eq))
          · rw [List.filter_eq_self.mpr (fun _ _ => rfl), ← sortB_fst] at en
            have s05 := (sq3.trans st).trans s5
            refine ⟨D, ws, sortB (jn b b2), rfl, e5, (rows_pick rows raw.nd (fun x h => (sortB_perm _).mem_iff.mp h) en).same s05, raw.sort, fun a' G6 na sa bk3 => ?_⟩
            exact k2 cl (by omega) a' G6 (none_same s05 na) (s05.trans sa) bk3
  · refine l_notOwn T.o_Book ky ?_
    walk_at "s"
    refine i_t rfl ?_
    walk_at "s"
    exact k
end
section
variable {P : Program} {w : World} {K : PySem.W.Frag} {mg : Str → Option Value} {base : Heap}
def sp__law_dice (K : PySem.W.Frag) : Sp := fun vs H Q _ => ∃ (a : Addr) (ns : List Int) (i : Int), vs = [.ref a, .int i] ∧ SqL K H a (ns.map V.int) ∧ 0 ≤ i ∧
  ∀ p H', H p = none → Same H H' → DiceAt H' p → Q (.ref p) H'
theorem map_int_at {ns : List Int} {x : V} (h : x ∈ ns.map V.int) : ∃ z, x = .int z := by
  obtain ⟨z, _, e⟩ := List.mem_map.mp h
  exact ⟨z, e.symm⟩
theorem ok__law_dice (T : Txt K mg) : FnG P w K mg base CX0 1 T.a__law_dice T.d__law_dice ["script", "at"] (sp__law_dice K) := by
  refine okG T.F__law_dice sc__law_dice (fun vs H Q E h => ?_) (fun cdv A fs s H vs Q E hr h => ?_)
  · obtain ⟨a, ns, i, rfl, _⟩ := h
    rfl
  obtain ⟨a, ns, i, rfl, hS, h0, k⟩ := h
  have nd := sc__law_dice.nd
  refine ⟨_, ((pss_cons (ps_set (i := 2) nd rfl (Or.inl rfl) (pe_op op_add (pe_op op_mul pe_int (pv 1)) pe_int))
  (pss_cons (ps_if (pt_cmpR op_lt (pv 1) (pe_callB c_len (by rfl) T.z_len (by decide +kernel) (pa_cons (pv 0) pa_nil)) (nomark _)) (pss_one (ps_set (i := 2) nd rfl (Or.inl rfl) (pe_ix ix_list (pv 0) (pv 1) (fun _ _ => rfl)))) pss_nil)
  (pss_cons (ps_set (i := 3) nd rfl (Or.inl rfl) (pe_op op_mod (pe_callTy c_int (by rfl) T.z_int (by decide +kernel) (pa_cons (pe_callB c_abs (by rfl) T.z_abs (by decide +kernel) (pa_cons (pv 2) pa_nil)) pa_nil)) (pe_op op_powW (pe_op op_powW pe_int pe_int) pe_int)))
  (pss_cons (ps_set (i := 4) nd rfl (Or.inl rfl) (pe_op op_add (pe_op op_add (pe_op op_add (pe_op op_mul (pe_op op_mod (pe_callTy c_int (by rfl) T.z_int (by decide +kernel) (pa_cons (pv 3) pa_nil)) pe_int) pe_int) (pe_op op_mul pe_int (pv 1))) (pe_op op_mul pe_int (pe_callTy c_int (by rfl) T.z_int (by decide +kernel) (pa_cons (pe_cmpR op_lt (pv 2) pe_int (nomark _)) pa_nil)))) pe_int))
  (pss_one (ps_ret (pe_lst (pa_cons (pe_callB (c_max2 rfl) (by rfl) T.z_max (by decide +kernel) (pa_cons pe_int (pa_cons (pe_op op_sub (pv 3) (pe_op op_powW pe_int pe_int)) pa_nil))) (pa_cons (pe_op op_mod (pe_callTy c_int (by rfl) T.z_int (by decide +kernel) (pa_cons (pv 4) pa_nil)) pe_int) (pa_cons pe_int pa_nil))))))))))), ?_⟩
  walk_at "s"
  refine i_dec (fun c => ?_) (fun c => ?_)
  · obtain ⟨x, hx, _, hi⟩ := at_in (xs := ns.map V.int) h0 c
    obtain ⟨z, rfl⟩ := map_int_at hx
    walk_at "s"
    refine l_ixL hS hi ?_
    walk_at "s"
    refine ⟨by show 3 ≤ sizeLine; decide, fun p np => ?_⟩
    exact k p _ np (Same.upd0 np) ⟨_, _, _, upd_same⟩
  · walk_at "s"
    refine ⟨by show 3 ≤ sizeLine; decide, fun p np => ?_⟩
    exact k p _ np (Same.upd0 np) ⟨_, _, _, upd_same⟩

def sp__law_roll : Sp := fun vs H Q _ => ∃ (d : Addr) (t : Int), vs = [.ref d, .int t] ∧ DiceAt H d ∧ 0 < t ∧ t < 1000000000000000001 ∧ ∀ r H', 0 ≤ r → r < t → Dc d H H' → Q (.int r) H'
theorem dice_set {d : Addr} {H : Hp} {a b c : Int} (h : H d = some (.lst [.int a, .int b, .int c])) (x y z : Int) : Dc d H (upd H d (.lst [.int x, .int y, .int z])) :=
  ⟨(Keep.refl H).set, x, y, z, upd_same⟩
theorem l_set3 {d : Addr} {H : Hp} {xs ys : List V} {x : V} {i : Int} {j : Nat} {Q : Hp → Prop} (h : H d = some (.lst xs)) (hj : ixN xs.length i = some j) (e : xs.set j x = ys) (q : Q (upd H d (.lst ys))) :
    rSetL (.ref d) (.int i) x H Q := by
  subst e
  exact ⟨d, xs, i, j, rfl, rfl, h, hj, q⟩
theorem ok__law_roll (T : Txt K mg) : FnG P w K mg base CX0 1 T.a__law_roll T.d__law_roll ["dice", "total"] sp__law_roll := by
  refine okG T.F__law_roll sc__law_roll (fun vs H Q E h => ?_) (fun cdv A fs s H vs Q E hr h => ?_)
  · obtain ⟨d, t, rfl, _⟩ := h
    rfl
  obtain ⟨d, t, rfl, ⟨x, y, z, hd⟩, t0, t1, k⟩ := h
  have nd := sc__law_roll.nd
  have dv : CDivW (x : Int) t := ⟨t0, by omega⟩
  have i0 : atI ([.int x, .int y, .int z] : List V) 0 = some (.int x) := rfl
  have i1 : atI ([.int x, .int y, .int z] : List V) 1 = some (.int y) := rfl
  have i2 : atI ([.int x, .int y, .int z] : List V) 2 = some (.int z) := rfl
  refine ⟨_, ((pss_cons (ps_if (pt_cmpR op_gt (pe_ix ix_list (pv 0) pe_int (fun _ _ => rfl)) pe_int (nomark _)) (pss_cons (ps_set (i := 2) nd rfl (Or.inl rfl) (pe_op op_mod (pe_callTy c_int (by rfl) T.z_int (by decide +kernel) (pa_cons (pe_ix ix_list (pv 0) pe_int (fun _ _ => rfl)) pa_nil)) (pv 1)))
  (pss_cons (ps_asg (pe_op op_fdivW (pe_ix ix_list (pv 0) pe_int (fun _ _ => rfl)) (pv 1)) (pg_sub (pv 0) pe_int set_list))
  (pss_one (ps_ret (pv 2))))) pss_nil)
  (pss_cons (ps_asg (pe_op op_add (pe_ix ix_list (pv 0) pe_int (fun _ _ => rfl)) pe_int) (pg_sub (pv 0) pe_int set_list))
  (pss_cons (ps_set (i := 3) nd rfl (Or.inl rfl) (pe_op op_mod (pe_callTy c_int (by rfl) T.z_int (by decide +kernel) (pa_cons (pe_op op_add (pe_ix ix_list (pv 0) pe_int (fun _ _ => rfl)) (pe_op op_mul pe_int (pe_ix ix_list (pv 0) pe_int (fun _ _ => rfl)))) pa_nil)) pe_int))
  (pss_cons (ps_set (i := 4) nd rfl (Or.inl rfl) (pe_op op_add (pe_op op_mul (pe_op op_mod (pe_callTy c_int (by rfl) T.z_int (by decide +kernel) (pa_cons (pe_op op_mul (pv 3) (pv 3)) pa_nil)) pe_int) (pv 3)) (pe_op op_mul pe_int (pe_ix ix_list (pv 0) pe_int (fun _ _ => rfl)))))
  (pss_cons (ps_set (i := 4) nd rfl (Or.inl rfl) (pe_op op_mod (pe_callTy c_int (by rfl) T.z_int (by decide +kernel) (pa_cons (pv 4) pa_nil)) pe_int))
  (pss_one (ps_ret (pe_op op_mod (pe_callTy c_int (by rfl) T.z_int (by decide +kernel) (pa_cons (pe_op op_fdivW (pv 4) pe_int) pa_nil)) (pv 1)))))))))), ?_⟩
  walk_at "s"
  refine l_ixL (SqL.of hd) i0 ?_
  walk_at "s"
  refine i_dec (fun c => ?_) (fun c => ?_)
  · walk_at "s"
    refine l_ixL (SqL.of hd) i0 ?_
    walk_at "s"
    refine l_ixL (SqL.of hd) i0 ?_
    walk_at "s"
    refine l_set3 hd (j := 0) rfl rfl ?_
    walk_at "s"
    exact k _ _ (Int.emod_nonneg _ (by omega)) (Int.emod_lt_of_pos _ t0) (dice_set hd _ _ _)
  · walk_at "s"
    refine l_ixL (SqL.of hd) i2 ?_
    walk_at "s"
    refine l_set3 hd (j := 2) rfl rfl ?_
    have hd' : (upd H d (.lst [.int x, .int y, .int (z + 1)])) d = some (.lst [.int x, .int y, .int (z + 1)]) := upd_same
    have j1 : atI ([.int x, .int y, .int (z + 1)] : List V) 1 = some (.int y) := rfl
    have j2 : atI ([.int x, .int y, .int (z + 1)] : List V) 2 = some (.int (z + 1)) := rfl
    walk_at "s"
    refine l_ixL (SqL.of hd') j1 ?_
    walk_at "s"
    refine l_ixL (SqL.of hd') j2 ?_
    walk_at "s"
    refine l_ixL (SqL.of hd') j2 ?_
    walk_at "s"
    exact k _ _ (Int.emod_nonneg _ (by omega)) (Int.emod_lt_of_pos _ t0) (dice_set hd _ _ _)
end
section
variable {P : Program} {w : World} {K : PySem.W.Frag} {mg : Str → Option Value} {base : Heap}
def sp__law_one_of (K : PySem.W.Frag) : Sp := fun vs H Q _ => ∃ (d l : Addr) (xs : List V), vs = [.ref d, .ref l] ∧ DiceAt H d ∧ SqL K H l xs ∧ l ≠ d ∧ 0 < xs.length ∧ xs.length < 1000000 ∧
  ∀ x H', x ∈ xs → Dc d H H' → Q x H'
theorem ok__law_one_of (T : Txt K mg) : FnG P w K mg base CX0 2 T.a__law_one_of T.d__law_one_of ["dice", "items"] (sp__law_one_of K) := by
  have G__law_roll : FnG P w K mg base CX0 1 T.a__law_roll T.d__law_roll ["dice", "total"] sp__law_roll := ok__law_roll T
  refine okG T.F__law_one_of sc__law_one_of (fun vs H Q E h => ?_) (fun cdv A fs s H vs Q E hr h => ?_)
  · obtain ⟨d, l, xs, rfl, _⟩ := h
    rfl
  obtain ⟨d, l, xs, rfl, hd, hl, ne, n0, n1, k⟩ := h
  have nd := sc__law_one_of.nd
  refine ⟨_, ((pss_one (ps_ret (pe_ix ix_list (pv 1) (pe_callG G__law_roll (hr.down (by decide)) rfl T.m__law_roll T.F__law_roll.kp T.b__law_roll .nil pass0 (pa_cons (pv 0) (pa_cons (pe_callB c_len (by rfl) T.z_len (by decide +kernel) (pa_cons (pv 1) pa_nil)) pa_nil))) (fun _ _ => rfl))))), ?_⟩
  walk_at "s"
  refine ⟨d, _, rfl, hd, by omega, by omega, fun r H' h0 h1 dc => ?_⟩
  obtain ⟨x, hx, _, hi⟩ := at_in (xs := xs) h0 h1
  exact l_ixL (sql_keep dc.keep ne hl) hi (k x H' hx dc)
end
section
variable {P : Program} {w : World} {K : PySem.W.Frag} {mg : Str → Option Value} {base : Heap}
/-! ### drawn names -/
def abcN : Str := "abcdefghijklmnopqrstuvwxyz"
def resN : List Str := ["failed", "kept", "skipped", "undone"]
/-- a text of small letters, 1 to 8 -/
def NameOk (y : Str) : Prop := 1 ≤ y.length ∧ y.length ≤ 8 ∧ ∀ c ∈ y.cps.toList, 97 ≤ c ∧ c ≤ 122
instance {y : Str} : Decidable (NameOk y) := inferInstanceAs (Decidable (1 ≤ y.length ∧ y.length ≤ 8 ∧ ∀ c ∈ y.cps.toList, 97 ≤ c ∧ c ≤ 122))
def sp__law_name (K : PySem.W.Frag) : Sp := fun vs H Q _ => ∃ (d t : Addr) (ys : List Str), vs = [.ref d, .ref t] ∧ DiceAt H d ∧ SqL K H t (ys.map V.str) ∧ t ≠ d ∧ ys.length ≤ 20 ∧
  ∀ y G, NameOk y → y ∉ ys → y ∉ resN → Dc d H G → Q (.str y) G
theorem pigeon : ∀ (ys l : List Str), l.Nodup → ys.length < l.length → ∃ x ∈ l, x ∉ ys
  | [], x :: l, _, _ => ⟨x, List.mem_cons_self, nofun⟩
  | [], [], _, h => absurd h (by decide)
  | y :: ys, l, nd, h => by
    have len : ys.length < (l.erase y).length := by
      have := List.length_erase (a := y) (l := l)
      rw [this]
      rw [List.length_cons] at h
      split <;> omega
    obtain ⟨x, hx, hn⟩ := pigeon ys (l.erase y) (nd.erase y) len
    rw [nd.mem_erase_iff] at hx
    refine ⟨x, hx.2, fun z => ?_⟩
    rcases List.mem_cons.mp z with e | e
    · exact hx.1 e
    · exact hn e
def qN : List Str := abcN.cps.toList.map fun c => ("q" : Str) ++ (⟨#[c]⟩ : Str)
theorem qN_nodup : qN.Nodup := by decide +kernel
theorem qN_len : qN.length = 26 := by decide +kernel
theorem qN_ok : ∀ y ∈ qN, NameOk y ∧ y ∉ resN := by decide +kernel
theorem in_strs (ys : List Str) (s : Str) : inV (.str s) (ys.map V.str) = ys.any fun y => y == s := by
  unfold inV
  rw [List.any_map]
  rfl
theorem strs_flat (l : List Str) : (l.map V.str).all flatV = true := by
  rw [List.all_map, List.all_eq_true]
  intro _ _
  rfl
theorem l_ninL {p : Addr} {ys : List Str} {s : Str} {H : Hp} {Q : VK} (h : SqL K H p (ys.map V.str) ∨ SqT K H p (ys.map V.str)) (q : Q (.bl (!(ys.any fun y => y == s))) H) : rIn K true (.str s) (.ref p) H Q :=
  ⟨p, _, rfl, h, rfl, strs_flat _, by rw [if_pos rfl, in_strs]; exact q⟩
theorem any_mem {ys : List Str} {s : Str} : (!(ys.any fun y => y == s)) = decide (s ∉ ys) := by
  by_cases h : s ∈ ys
  · have e : (ys.any fun y => y == s) = true := List.any_eq_true.mpr ⟨s, h, by simp⟩
    rw [e, decide_eq_false (fun n => n h)]
    rfl
  · have e : (ys.any fun y => y == s) = false := by
      rw [List.any_eq_false]
      intro y hy z
      have : y = s := by simpa using z
      exact h (this ▸ hy)
    rw [e, decide_eq_true h]
    rfl
def freeB (ys : List Str) : V → Bool := fun v => match v with
  | .str s => !(ys.any fun y => y == s) && !(resN.any fun y => y == s)
  | _ => false
def qOf : V → V := fun v => match v with
  | .str s => .str (("q" : Str) ++ s)
  | x => x
theorem abc_at {r : Int} (h0 : 0 ≤ r) (h1 : r < 26) : ∃ c, atI abcN.cps.toList r = some c ∧ 97 ≤ c ∧ c ≤ 122 := by
  have all : ∀ k : Fin 26, ∃ c, abcN.cps.toList[k.val]? = some c ∧ 97 ≤ c ∧ c ≤ 122 := by
    intro k
    have h : ∀ k : Fin 26, abcN.cps.toList[k.val]? = some (k.val + 97) := by decide +kernel
    exact ⟨_, h k, by omega, by have := k.isLt; omega⟩
  obtain ⟨c, hc, h2⟩ := all ⟨r.toNat, by omega⟩
  refine ⟨c, ?_, h2⟩
  have e : atI abcN.cps.toList ((r.toNat : Nat) : Int) = some c := atI_nat hc
  rwa [Int.toNat_of_nonneg h0] at e
theorem name_app {n : Nat} {z : Str} {c : Nat} (h : z.length = n ∧ ∀ c ∈ z.cps.toList, 97 ≤ c ∧ c ≤ 122) (hc : 97 ≤ c ∧ c ≤ 122) : (z ++ (⟨#[c]⟩ : Str)).length = n + 1 ∧ ∀ x ∈ (z ++ (⟨#[c]⟩ : Str)).cps.toList, 97 ≤ x ∧ x ≤ 122 := by
  refine ⟨?_, fun x hx => ?_⟩
  · rw [append_len, h.1]
    rfl
  · rcases append_mem hx with q | q
    · exact h.2 x q
    · have e : x = c := by simpa using q
      rw [e]
      exact hc
theorem ok__law_name (T : Txt K mg) : FnG P w K mg base CX0 3 T.a__law_name T.d__law_name ["dice", "taken"] (sp__law_name K) := by
  have G__law_roll : FnG P w K mg base CX0 1 T.a__law_roll T.d__law_roll ["dice", "total"] sp__law_roll := ok__law_roll T
  have G__law_one_of : FnG P w K mg base CX0 2 T.a__law_one_of T.d__law_one_of ["dice", "items"] (sp__law_one_of K) := ok__law_one_of T
  have HP := @PassesOwn.never
  refine okG T.F__law_name sc__law_name (fun vs H Q E h => ?_) (fun cdv A fs s H vs Q E hr h => ?_)
  · obtain ⟨d, t, ys, rfl, _⟩ := h
    rfl
  obtain ⟨d, t, ys, rfl, hd, ht, ne, hz, k⟩ := h
  have nd := sc__law_name.nd
  refine ⟨_, ((pss_cons (ps_asg (pe_tup (pa_cons pe_str (pa_cons pe_str pa_nil))) (pg_tup (by rfl) (pgs_cons (pg_name (i := 2) nd rfl (Or.inl rfl)) (pgs_cons (pg_name (i := 3) nd rfl (Or.inl rfl)) pgs_nil))))
  (pss_cons (ps_for HP rfl (pi_range1 rfl T.z_range (pa_cons (pe_callG G__law_one_of (hr.down (by decide)) rfl T.m__law_one_of T.F__law_one_of.kp T.b__law_one_of .nil pass0 (pa_cons (pv 0) (pa_cons (pe_lst (pa_consts (by rfl))) pa_nil))) pa_nil)) (pg_name (i := 4) nd rfl (Or.inl rfl)) (pss_one (ps_set (i := 3) nd rfl (Or.inl rfl) (pe_op o_addS (pv 3) (pe_ix ix_str (pv 2) (pe_callG G__law_roll (hr.down (by decide)) rfl T.m__law_roll T.F__law_roll.kp T.b__law_roll .nil pass0 (pa_cons (pv 0) (pa_cons pe_int pa_nil))) (fun _ _ => rfl))))))
  (pss_cons (ps_set (i := 5) nd rfl (Or.inl rfl) (pe_op op_cat (pe_lst (pa_cons (pv 3) pa_nil)) (pe_lc (own := [("letter", 6)]) rfl nd (pi_str (pv 2)) (blkOk_by (own := [("letter", 6)]) (N := ["dice", "taken", "letters", "word", "turn", "spare", "letter", "one"]) (sc := defScope s__law_name) (by decide +kernel)) (fun _ _ _ _ _ => pg_name (i := 6) nd rfl (Or.inl rfl)) (fun _ _ _ _ _ => pts_nil) (fun _ _ _ _ _ => by exact (pe_op o_addS pe_str (pv 6))))))
  (pss_one (ps_ret (pe_ix ix_list (pe_lc (own := [("one", 7)]) rfl nd (pi_list (pv 5)) (blkOk_by (own := [("one", 7)]) (N := ["dice", "taken", "letters", "word", "turn", "spare", "letter", "one"]) (sc := defScope s__law_name) (by decide +kernel)) (fun _ _ _ _ _ => pg_name (i := 7) nd rfl (Or.inl rfl)) (fun _ _ _ _ _ => by exact (pts_one (PW.pt (pw_and (pt_cmpR (show OpR _ _ (rIn K true) from op_notIn_seq) (pv 7) (pv 1) (by rfl)) (pw_and1 (pt_cmpR (show OpR _ _ (rIn K true) from op_notIn_seq) (pv 7) (pe_tup (pa_consts (by rfl))) (by rfl))))))) (fun _ _ _ _ _ => by exact (pv 7))) pe_int (fun _ _ => rfl)))))))), ?_⟩
  walk_at "s"
  refine l_newT (by show 2 ≤ sizeLine; decide) fun p9 G9 np9 sp9 ep9 => ?_
  walk_at "s"
  refine l_gtup (SqT.of ep9) rfl ?_
  walk_at "s"
  refine l_newL (by show 7 ≤ sizeLine; decide) fun p G0 np sp ep => ?_
  have dc9 := (Dc.refl hd).same sp9
  have dc0 := dc9.same sp
  have nep : p ≠ d := fun e => (dc9.dice.ne np) e.symm
  refine ⟨d, p, _, rfl, dc0.dice, SqL.of ep, nep, by show 0 < 7; decide, by show 7 < 1000000; decide, fun x G1 hx dc1 => ?_⟩
  have dc1' := dc0.trans dc1
  obtain ⟨n, rfl, n1, n2⟩ : ∃ n : Nat, x = .int (n : Int) ∧ 1 ≤ n ∧ n ≤ 8 := by
    have h : ∀ x ∈ ([.int 1, .int 1, .int 2, .int 3, .int 4, .int 6, .int 8] : List V), ∃ n : Nat, x = .int (n : Int) ∧ 1 ≤ n ∧ n ≤ 8 := by
      intro x hx
      simp only [List.mem_cons, List.not_mem_nil, or_false] at hx
      rcases hx with rfl | rfl | rfl | rfl | rfl | rfl | rfl
      · exact ⟨1, rfl, by decide, by decide⟩
      · exact ⟨1, rfl, by decide, by decide⟩
      · exact ⟨2, rfl, by decide, by decide⟩
      · exact ⟨3, rfl, by decide, by decide⟩
      · exact ⟨4, rfl, by decide, by decide⟩
      · exact ⟨6, rfl, by decide, by decide⟩
      · exact ⟨8, rfl, by decide, by decide⟩
    exact h x hx
  have sg : abcN.length ≤ sizeLine := by rw [sizeLine_eq]; decide +kernel
  refine l_forR (by omega) (by omega) (fun i σ G => ∃ (z : Str) (u : Option V), σ = [some (.ref d), some (.ref t), some (.str abcN), some (.str z), u, none, none, none] ∧ (z.length = i ∧ ∀ c ∈ z.cps.toList, 97 ≤ c ∧ c ≤ 122) ∧ Dc d H G) ⟨_, _, rfl, ⟨rfl, fun c hc => nomatch hc⟩, dc1'⟩ ?_ ?_
  · rintro i σ G hi ⟨z, u, rfl, hz, dc⟩
    have hz2 : z.length + 1 ≤ sizeLine := by rw [sizeLine_eq, hz.1]; omega
    walk_at "s"
    refine ⟨d, 26, rfl, dc.dice, by decide, by decide, fun r G2 r0 r1 dc2 => ?_⟩
    obtain ⟨c, hc, hc2⟩ := abc_at r0 r1
    refine l_ixS sg hc ?_
    refine l_addS hz2 ?_
    walk_at "s"
    exact ⟨_, _, rfl, name_app hz hc2, dc.trans dc2⟩
  · rintro σ G ⟨z, u, rfl, hz0, dc⟩
    have zl : z.length = n := by have := hz0.1; omega
    have zok : NameOk z := ⟨by omega, by omega, hz0.2⟩
    walk_at "s"
    refine l_newL (by show 1 ≤ sizeLine; decide) fun p1 J1 np1 s1 e1 => ?_
    walk_at "s"
    refine l_lcS (fun _ => true) qOf (by decide +kernel) (fun c _ G' _ R r => ?_) (fun c hc _ G' _ R r => ?_) (fun D J2 _ s2 e2 => ?_)
    · exact s_yes (r G' (Same.refl G'))
    · exact s_op (s_c (s_var rfl (l_addS (by show 1 + 1 ≤ sizeLine; decide) (r G' (Same.refl G')))))
    · have eq1 : (((abcN.cps.toList.map signV).filter fun _ => true).map qOf) = qN.map V.str := by
        rw [List.filter_eq_self.mpr (fun _ _ => rfl), List.map_map]
        unfold qN
        rw [List.map_map]
        rfl
      have e2' : J2 D = some (.lst (qN.map V.str)) := e2.trans (congrArg (fun l => some (HO.lst l)) eq1)
      refine l_cat (s2 _ _ e1) e2' (by rw [List.length_map, qN_len, sizeLine_eq]; show 1 + 26 ≤ _; decide) fun p2 J3 np2 s3 e3 => ?_
      have e3' : J3 p2 = some (.lst ((z :: qN).map V.str)) := e3
      have dc3 := ((dc.same s1).same s2).same s3
      walk_at "s"
      have st : ∀ J, Same J3 J → SqL K J t (ys.map V.str) := fun J sJ => sJ.seq (sql_keep dc3.keep ne ht)
      refine l_lcL (SqL.of e3') (freeB ys) (fun v => v) (by rw [List.length_map, List.length_cons, qN_len]; decide) (fun x hx G' sG R r => ?_) (fun x hx _ G' _ R r => ?_) (fun D2 J4 _ s4 e4 => ?_)
      · obtain ⟨y, _, rfl⟩ := List.mem_map.mp hx
        refine s_and (s_test (s_op (s_var rfl (s_var rfl (l_ninL (Or.inl (st G' sG)) ?_)))))
        refine l_bl (i_b (fun e => ?_) (fun e => ?_))
        · refine s_test (s_op (s_var rfl (s_tup (s_consts ?_))))
          refine l_newT (by show 4 ≤ sizeLine; decide) fun p5 G5 np5 sp5 ep5 => ?_
          refine l_ninL (ys := resN) (Or.inr (SqT.of ep5)) ?_
          have q : freeB ys (.str y) = !(resN.any fun x => x == y) := by
            show (!(ys.any fun x => x == y) && _) = _
            rw [e, Bool.true_and]
          rw [q] at r
          exact l_bl (r G5 sp5)
        · have q : freeB ys (.str y) = false := by
            show (!(ys.any fun x => x == y) && _) = false
            rw [e]
            rfl
          rw [q] at r
          exact r G' (Same.refl G')
      · exact s_var rfl (r G' (Same.refl G'))
      · have eq2 : (((z :: qN).map V.str).filter (freeB ys)).map (fun v => v) = ((z :: qN).filter fun s => freeB ys (.str s)).map V.str := by
          rw [List.map_id', List.filter_map]
          rfl
        have e4' : J4 D2 = some (.lst (((z :: qN).filter fun s => freeB ys (.str s)).map V.str)) := e4.trans (congrArg (fun l => some (HO.lst l)) eq2)
        have free_iff : ∀ s : Str, freeB ys (.str s) = true ↔ s ∉ ys ∧ s ∉ resN := by
          intro s
          show (!(ys.any fun y => y == s) && !(resN.any fun y => y == s)) = true ↔ _
          rw [any_mem, any_mem, Bool.and_eq_true, decide_eq_true_eq, decide_eq_true_eq]
        obtain ⟨x, hx, hn⟩ := pigeon ys qN qN_nodup (by rw [qN_len]; omega)
        have mem : x ∈ (z :: qN).filter fun s => freeB ys (.str s) := List.mem_filter.mpr ⟨List.mem_cons_of_mem _ hx, (free_iff x).mpr ⟨hn, (qN_ok x hx).2⟩⟩
        cases hF : (z :: qN).filter fun s => freeB ys (.str s) with
        | nil =>
          rw [hF] at mem
          cases mem
        | cons y rest =>
          have hy : y ∈ (z :: qN).filter fun s => freeB ys (.str s) := by rw [hF]; exact List.mem_cons_self
          obtain ⟨hy1, hy2⟩ := List.mem_filter.mp hy
          obtain ⟨m1, m2⟩ := (free_iff y).mp hy2
          rw [hF] at e4'
          refine s_c (l_ixL (SqL.of e4') (i := 0) (v := .str y) (by show atI _ ((0 : Nat) : Int) = _; exact atI_nat rfl) ?_)
          refine k y J4 ?_ m1 m2 (dc3.same s4)
          rcases List.mem_cons.mp hy1 with e | e
          · rw [e]
            exact zok
          · exact (qN_ok y e).1
/-! ### rows of such names -/
def sp__law_names : Sp := fun vs H Q _ => ∃ (d : Addr) (n : Nat), vs = [.ref d, .int (n : Int)] ∧ DiceAt H d ∧ n ≤ 20 ∧
  ∀ (p : Addr) (G : Hp) (ys : List Str), ys.length = n → (∀ y ∈ ys, NameOk y ∧ y ∉ resN) → ys.Nodup → H p = none → G p = some (.lst (ys.map V.str)) → Dc d H G → Q (.ref p) G
theorem ok__law_names (T : Txt K mg) : FnG P w K mg base CX0 4 T.a__law_names T.d__law_names ["dice", "size"] sp__law_names := by
  have G__law_name : FnG P w K mg base CX0 3 T.a__law_name T.d__law_name ["dice", "taken"] (sp__law_name K) := ok__law_name T
  have HP := @PassesOwn.never
  refine okG T.F__law_names sc__law_names (fun vs H Q E h => ?_) (fun cdv A fs s H vs Q E hr h => ?_)
  · obtain ⟨d, n, rfl, _⟩ := h
    rfl
  obtain ⟨d, n, rfl, hd, hn, k⟩ := h
  have nd := sc__law_names.nd
  refine ⟨_, ((pss_cons (ps_set (i := 2) nd rfl (Or.inl rfl) (pe_lst pa_nil))
  (pss_cons (ps_for HP rfl (pi_range1 rfl T.z_range (pa_cons (pv 1) pa_nil)) (pg_name (i := 3) nd rfl (Or.inl rfl)) (pss_one (ps_expr (pe_bm PySem.F.plainAttrs_list PySem.F.slot_list_append PySem.F.type_list_append mt_append (pv 2) (pa_cons (pe_callG G__law_name (hr.down (by decide)) rfl T.m__law_name T.F__law_name.kp T.b__law_name .nil pass0 (pa_cons (pv 0) (pa_cons (pv 2) pa_nil))) pa_nil)))))
  (pss_one (ps_ret (pv 2)))))), ?_⟩
  walk_at "s"
  refine l_newL (by show 0 ≤ sizeLine; decide) fun p G0 np sp ep => ?_
  have dc0 := (Dc.refl hd).same sp
  have nep : p ≠ d := fun e => (hd.ne np) e.symm
  walk_at "s"
  refine l_forR (by omega) (by omega) (fun i σ G => ∃ (ys : List Str) (u : Option V), σ = [some (.ref d), some (.int (n : Int)), some (.ref p), u] ∧ ys.length = i ∧ (∀ y ∈ ys, NameOk y ∧ y ∉ resN) ∧ ys.Nodup ∧ G p = some (.lst (ys.map V.str)) ∧ Dc d H G) ⟨[], _, rfl, rfl, nofun, List.nodup_nil, ep, dc0⟩ ?_ ?_
  · rintro i σ G hi ⟨ys, u, rfl, hl, hok, hnd, hp, dc⟩
    walk_at "s"
    refine ⟨.ref p, rfl, Or.inl ⟨rfl, _, SqL.of hp⟩, ?_⟩
    walk_at "s"
    refine ⟨d, p, ys, rfl, dc.dice, SqL.of hp, nep, by omega, fun y G2 y1 y2 y3 dc2 => ?_⟩
    walk_at "s"
    have hp2 := dc2.keep p _ nep hp
    refine ⟨p, _, .str y, rfl, rfl, hp2, by rw [List.length_map, sizeLine_eq]; omega, ?_⟩
    walk_at "s"
    have dc3 := dc.trans dc2
    refine ⟨ys ++ [y], _, rfl, by rw [List.length_append, hl]; rfl, fun x hx => ?_, ?_, by rw [upd_same, List.map_append]; rfl, ⟨fun b o nb z => ?_, ?_⟩⟩
    · rcases List.mem_append.mp hx with q | q
      · exact hok x q
      · have e : x = y := by simpa using q
        rw [e]
        exact ⟨y1, y3⟩
    · refine List.nodup_append.mpr ⟨hnd, by simp, fun a ha b hb e => ?_⟩
      have e2 : b = y := by simpa using hb
      rw [e, e2] at ha
      exact y2 ha
    · have bp : b ≠ p := ne_of_none z np
      rw [upd_ne bp]
      exact dc3.keep b o nb z
    · obtain ⟨a1, a2, a3, e⟩ := dc3.dice
      exact ⟨a1, a2, a3, by rw [upd_ne (Ne.symm nep)]; exact e⟩
  · rintro σ G ⟨ys, u, rfl, hl, hok, hnd, hp, dc⟩
    walk_at "s"
    exact k p G ys (by omega) hok hnd np hp dc
end
section
variable {P : Program} {w : World} {K : PySem.W.Frag} {mg : Str → Option Value} {base : Heap}
/-- the items in some order, as a new list -/
def sp__law_mixed (K : PySem.W.Frag) : Sp := fun vs H Q _ => ∃ (d l : Addr) (xs : List V), vs = [.ref d, .ref l] ∧ DiceAt H d ∧ SqL K H l xs ∧ l ≠ d ∧ xs.length ≤ 1000 ∧ ∀ p G ys, ys.Perm xs → H p = none → G p = some (.lst ys) → Dc d H G → Q (.ref p) G
theorem seq_ix {i : Int} {n : Nat} (h0 : 0 ≤ i) (h1 : i < (n : Int)) : seqIndex? i n = some i.toNat := by
  unfold seqIndex?
  simp
  omega
theorem erase_perm {α : Type} : ∀ {l : List α} {i : Nat} (h : i < l.length), (l[i] :: l.eraseIdx i).Perm l
  | _ :: _, 0, _ => List.Perm.refl _
  | x :: l, i + 1, h => (List.Perm.swap x _ _).trans (List.Perm.cons x (erase_perm (l := l) (i := i) (by simpa using h)))
theorem ok__law_mixed (T : Txt K mg) : FnG P w K mg base CX0 2 T.a__law_mixed T.d__law_mixed ["dice", "items"] (sp__law_mixed K) := by
  have G__law_roll : FnG P w K mg base CX0 1 T.a__law_roll T.d__law_roll ["dice", "total"] sp__law_roll := ok__law_roll T
  refine okG T.F__law_mixed sc__law_mixed (fun vs H Q E h => ?_) (fun cdv A fs s H vs Q E hr h => ?_)
  · obtain ⟨d, l, xs, rfl, _⟩ := h
    rfl
  obtain ⟨d, l, xs, rfl, hd, hl, ne, hn, k⟩ := h
  have nd := sc__law_mixed.nd
  refine ⟨_, ((pss_cons (ps_set (i := 2) nd rfl (Or.inr rfl) (pe_callTy c_list (by rfl) T.z_list (by decide +kernel) (pa_cons (pv 1) pa_nil)))
  (pss_one (ps_ret (pe_lc (own := [("turn", 3)]) rfl nd (pi_range1 rfl T.z_range (pa_cons (pe_callB c_len (by rfl) T.z_len (by decide +kernel) (pa_cons (pv 1) pa_nil)) pa_nil)) (blkOk_by (own := [("turn", 3)]) (N := ["dice", "items", "left", "turn"]) (sc := defScope s__law_mixed) (by decide +kernel)) (fun _ _ _ _ _ => pg_name (i := 3) nd rfl (Or.inl rfl)) (fun _ _ _ _ _ => pts_nil) (fun _ _ _ _ _ => by exact (show PE _ _ (tBM K "list" rPopAt _ _) from (pe_bm PySem.F.plainAttrs_list PySem.F.slot_list_pop PySem.F.type_list_pop mt_popAt (pv 2) (pa_cons (pe_callG G__law_roll (hr.down (by decide)) rfl T.m__law_roll T.F__law_roll.kp T.b__law_roll .nil pass0 (pa_cons (pv 0) (pa_cons (pe_callB (show CallR _ _ (G9.rLen K) from c_len) (by rfl) T.z_len (by decide +kernel) (pa_cons (pv 2) pa_nil)) pa_nil))) pa_nil))))))))), ?_⟩
  walk_at "s"
  refine l_listL hl fun m G0 nm s0 em => ?_
  walk_at "s"
  refine s_lcR (j := 3) ?_
  walk_at "s"
  refine l_lenL (s0.seq hl) ?_
  walk_at "s"
  refine ⟨(xs.length : Int), rfl, by omega, by omega, fun D hD => ?_⟩
  have nmd : m ≠ d := fun e => (hd.ne nm) e.symm
  have nDm : D ≠ m := fun e => by
    rw [e, em] at hD
    cases hD
  have dc0 := (Dc.refl hd).same s0
  have nDd : D ≠ d := fun e => by
    obtain ⟨_, _, _, z⟩ := dc0.dice
    rw [e, z] at hD
    cases hD
  have nHD : H D = none := by
    cases e0 : H D with
    | none => rfl
    | some u =>
      rw [s0 _ _ e0] at hD
      cases hD
  have lw : (intsTo xs.length).length = xs.length := by unfold intsTo; rw [List.length_map, List.length_range]
  refine lc_it (walk_ints (n := xs.length)) (fun i G => ∃ acc rest : List V, G D = some (.lst acc) ∧ G m = some (.lst rest) ∧ acc.length = i ∧ (acc ++ rest).Perm xs ∧ Dc d H G) ?_ (fun _ _ _ _ => trivial) ?_ (fun G p => ?_)
  · refine ⟨[], xs, upd_same, by rw [upd_ne (Ne.symm nDm)]; exact em, rfl, List.Perm.refl _, dc0.keep.new hD, ?_⟩
    obtain ⟨x1, x2, x3, z⟩ := dc0.dice
    exact ⟨x1, x2, x3, by rw [upd_ne (Ne.symm nDd)]; exact z⟩
  · rintro i x G G' hi ⟨acc, rest, eD, eM, la, pm, dc⟩ y
    obtain ⟨rfl, hx⟩ := y
    rw [lw] at hi
    have pl := pm.length_eq
    rw [List.length_append] at pl
    refine s_name ⟨?_, ?_⟩
    · rfl
    refine s_yes (iteT ?_)
    refine ⟨.ref m, rfl, Or.inl ⟨rfl, _, SqL.of eM⟩, ?_⟩
    walk_at "s"
    refine ⟨d, _, rfl, dc.dice, by omega, by omega, fun r G2 h0 h1 dc2 => ?_⟩
    walk_at "s"
    have eM2 := dc2.keep _ _ nmd eM
    have eD2 := dc2.keep _ _ nDd eD
    have hr : r.toNat < rest.length := by omega
    refine ⟨m, rest, r, r.toNat, rest[r.toNat], rfl, rfl, eM2, by omega, by omega, seq_ix h0 h1, List.getElem?_eq_getElem hr, acc, by rw [upd_ne nDm]; exact eD2, by rw [sizeLine_eq]; omega, acc ++ [rest[r.toNat]], rest.eraseIdx r.toNat, upd_same, by rw [upd_ne (Ne.symm nDm), upd_same], by rw [List.length_append, la]; rfl, ?_, ?_⟩
    · rw [List.append_assoc]
      exact ((List.Perm.append_left acc (erase_perm hr))).trans pm
    · have dc3 := dc.trans dc2
      refine ⟨fun b o nb z => ?_, ?_⟩
      · rw [upd_ne (ne_of_none z nHD), upd_ne (ne_of_none z nm)]
        exact dc3.keep b o nb z
      · obtain ⟨x1, x2, x3, z⟩ := dc3.dice
        exact ⟨x1, x2, x3, by rw [upd_ne (Ne.symm nDd), upd_ne (Ne.symm nmd)]; exact z⟩
  · obtain ⟨acc, rest, eD, eM, la, pm, dc⟩ := p
    rw [lw] at la
    have pl := pm.length_eq
    rw [List.length_append] at pl
    have : rest = [] := List.length_eq_zero_iff.mp (by omega)
    rw [this, List.append_nil] at pm
    exact k D G acc pm nHD eD dc
end
/-! ### drawn commands -/
section
variable {P : Program} {w : World} {K : PySem.W.Frag} {mg : Str → Option Value} {base : Heap}
/-- a dict with these commands -/
def PairsAt (H : Hp) (p : Addr) (b : PB) : Prop := ∃ kvs, H p = some (.dK kvs) ∧ RowsAt H kvs b
theorem answer_of {y : Str} (h : NameOk y) (n : y ∉ resN) : answerB1 y = true := by
  obtain ⟨h1, h2, h3⟩ := h
  unfold answerB1 nameB
  rw [decide_eq_true h1, decide_eq_true h2, Bool.true_and, Bool.true_and, Bool.and_eq_true]
  refine ⟨List.all_eq_true.mpr fun c hc => ?_, ?_⟩
  · have := h3 c hc
    unfold small
    rw [decide_eq_true this.1, decide_eq_true this.2]
    rfl
  · rw [Bool.not_eq_true', List.any_eq_false]
    intro z hz e
    exact n (by rw [← beq_iff_eq.mp e]; exact hz)
def sp__law_pairs : Sp := fun vs H Q _ => ∃ d : Addr, vs = [.ref d, .int 6, .int 3] ∧ DiceAt H d ∧ ∀ p G b, GoodB b → H p = none → PairsAt G p b → Dc d H G → Q (.ref p) G
theorem strs_perm : ∀ {l : List Str} {ys : List V}, ys.Perm (l.map V.str) → ∃ m : List Str, ys = m.map V.str ∧ m.Perm l := by
  intro l ys p
  refine ⟨ys.filterMap fun v => match v with | .str s => some s | _ => none, ?_, ?_⟩
  · have all : ∀ v ∈ ys, ∃ s, v = .str s := fun v hv => by
      obtain ⟨s, _, e⟩ := List.mem_map.mp (p.mem_iff.mp hv)
      exact ⟨s, e.symm⟩
    clear p
    induction ys with
    | nil => rfl
    | cons v r ih =>
      obtain ⟨s, rfl⟩ := all v List.mem_cons_self
      show _ = V.str s :: _
      rw [← ih fun x hx => all x (List.mem_cons_of_mem _ hx)]
  · have q := p.filterMap fun v => match v with | .str s => some s | _ => none
    refine q.trans (List.Perm.of_eq ?_)
    clear p q
    induction l with
    | nil => rfl
    | cons s r ih =>
      show s :: _ = s :: r
      rw [ih]
theorem rows_keep {d : Addr} {H G : Hp} {kvs : List (Key × V)} {b : PB} (hd : DiceAt H d) (k : Keep d H G) (r : RowsAt H kvs b) : RowsAt G kvs b := Paired.mono (fun _ _ a => ⟨a.1, by
  obtain ⟨pr, an, e, h1, h2⟩ := a.2
  obtain ⟨x1, x2, x3, z⟩ := hd
  have n1 : pr ≠ d := fun q => by
    rw [q, z] at h1
    cases h1
  have n2 : an ≠ d := fun q => by
    rw [q, z] at h2
    cases h2
  exact ⟨pr, an, e, k _ _ n1 h1, k _ _ n2 h2⟩⟩) r
theorem ok__law_pairs (T : Txt K mg) : FnG P w K mg base CX0 5 T.a__law_pairs T.d__law_pairs ["dice", "most", "answers"] sp__law_pairs := by
  have G__law_roll : FnG P w K mg base CX0 1 T.a__law_roll T.d__law_roll ["dice", "total"] sp__law_roll := ok__law_roll T
  have G__law_names : FnG P w K mg base CX0 4 T.a__law_names T.d__law_names ["dice", "size"] sp__law_names := ok__law_names T
  have G__law_mixed : FnG P w K mg base CX0 2 T.a__law_mixed T.d__law_mixed ["dice", "items"] (sp__law_mixed K) := ok__law_mixed T
  have HP := @PassesOwn.never
  refine okG T.F__law_pairs sc__law_pairs (fun vs H Q E h => ?_) (fun cdv A fs s H vs Q E hr h => ?_)
  · obtain ⟨d, rfl, _⟩ := h
    rfl
  obtain ⟨d, rfl, hd, k⟩ := h
  have nd := sc__law_pairs.nd
  refine ⟨_, ((pss_cons (ps_par (i := 3) (j := 4) rfl nd rfl rfl (by decide) rfl rfl (pa_cons (pe_callG G__law_names (hr.down (by decide)) rfl T.m__law_names T.F__law_names.kp T.b__law_names .nil pass0 (pa_cons (pv 0) (pa_cons (pe_op op_add pe_int (pe_callG G__law_roll (hr.down (by decide)) rfl T.m__law_roll T.F__law_roll.kp T.b__law_roll .nil pass0 (pa_cons (pv 0) (pa_cons (pv 1) pa_nil)))) pa_nil))) (pa_cons (pe_callG G__law_names (hr.down (by decide)) rfl T.m__law_names T.F__law_names.kp T.b__law_names .nil pass0 (pa_cons (pv 0) (pa_cons pe_int pa_nil))) pa_nil)) (by rfl))
  (pss_cons (ps_set (i := 5) nd rfl (Or.inl rfl) pe_dnewK)
  (pss_cons (ps_for HP rfl (pi_list (pe_callB cr_sortedS (by rfl) T.z_sorted (by decide +kernel) (pa_cons (pv 3) pa_nil))) (pg_name (i := 6) nd rfl (Or.inl rfl)) (pss_cons (ps_set (i := 7) nd rfl (Or.inl rfl) (pe_slice sl_list (pe_callG G__law_mixed (hr.down (by decide)) rfl T.m__law_mixed T.F__law_mixed.kp T.b__law_mixed .nil pass0 (pa_cons (pv 0) (pa_cons (pv 4) pa_nil))) po_none (po_some (pe_op op_add pe_int (pe_callG G__law_roll (hr.down (by decide)) rfl T.m__law_roll T.F__law_roll.kp T.b__law_roll .nil pass0 (pa_cons (pv 0) (pa_cons (pv 2) pa_nil)))))))
  (pss_one (ps_asg (pe_tup (pa_cons (pe_callG G__law_roll (hr.down (by decide)) rfl T.m__law_roll T.F__law_roll.kp T.b__law_roll .nil pass0 (pa_cons (pv 0) (pa_cons pe_int pa_nil))) (pa_cons (pe_callTy c_tuple (by rfl) T.z_tuple (by decide +kernel) (pa_cons (pe_callB cr_sortedS (by rfl) T.z_sorted (by decide +kernel) (pa_cons (pv 7) pa_nil)) pa_nil)) pa_nil))) (pg_sub (pv 5) (pv 6) (set_dict hr.hu))))))
  (pss_one (ps_ret (pv 5))))))), ?_⟩
  walk_at "s"
  refine ⟨d, 6, rfl, hd, by decide, by decide, fun r0 G0 r00 r01 dc0 => ?_⟩
  walk_at "s"
  obtain ⟨n, hn⟩ : ∃ n : Nat, (1 + r0 : Int) = n := Int.eq_ofNat_of_zero_le (by omega)
  rw [hn]
  refine ⟨d, n, rfl, dc0.dice, by omega, fun p1 G1 names l1 ok1 nd1 np1 ep1 dc1 => ?_⟩
  walk_at "s"
  refine ⟨d, 4, rfl, dc1.dice, by omega, fun p2 G2 pool l2 ok2 nd2 np2 ep2 dc2 => ?_⟩
  walk_at "s"
  have dc02 := (dc0.trans dc1).trans dc2
  have ne1 : p1 ≠ d := fun e => (dc0.dice.ne np1) e.symm
  have ne2 : p2 ≠ d := fun e => (dc1.dice.ne np2) e.symm
  intro D hD
  have nHD : H D = none := by
    cases e0 : H D with
    | none => rfl
    | some u =>
      by_cases z : D = d
      · obtain ⟨_, _, _, q⟩ := dc02.dice
        rw [z, q] at hD
        cases hD
      · rw [dc02.keep _ _ z e0] at hD
        cases hD
  have nDd : D ≠ d := fun e => (dc02.dice.ne hD) e.symm
  have sD : Same G2 (upd G2 D (.dK [])) := Same.upd0 hD
  have ep1' := sD _ _ (dc2.keep _ _ ne1 ep1)
  walk_at "s"
  refine l_sortL (SqL.of ep1') (by omega) fun q G3 nq sq eq => ?_
  have perm := sortS_perm names
  have asc : Asc (sortS names) := sortS_asc nd1
  have lq : (sortS names).length = n := by rw [perm.length_eq, l1]
  have g3D := sq _ _ (upd_same (H := G2) (a := D) (o := .dK []))
  have g3p := sq _ _ (sD _ _ ep2)
  have nqD : q ≠ D := fun e => by
    rw [e, upd_same] at nq
    cases nq
  have qd : q ≠ d := fun e => by
    obtain ⟨_, _, _, z⟩ := dc02.dice
    rw [e, sD _ _ z] at nq
    cases nq
  have np2D : p2 ≠ D := ne_of_none ep2 hD
  refine l_forL (SqL.of eq) (fun i τ G => ∃ (z1 z2 : Option V) (kvs : List (Key × V)) (b : PB), τ = [some (.ref d), some (.int 6), some (.int 3), some (.ref p1), some (.ref p2), some (.ref D), z1, z2] ∧ G D = some (.dK kvs) ∧ RowsAt G kvs b ∧ b.map (·.1) = (sortS names).take i ∧ (∀ x ∈ b, GoodP x.2.1 x.2.2) ∧
    G q = some (.lst ((sortS names).map V.str)) ∧ G p2 = some (.lst (pool.map V.str)) ∧ Dc d H G) ⟨_, _, [], [], rfl, g3D, .nil, rfl, (fun x hx => by cases hx), eq, g3p, (dc02.same sD).same sq⟩
    (fun i τ G _ p => by obtain ⟨_, _, _, _, _, _, _, _, _, z, _⟩ := p; exact SqL.of z) (fun i x τ G hi p => ?_) (fun τ G p => ?_)
  · obtain ⟨z1, z2, kvs, b, rfl, eD, rows, fst, good, eqq, epl, dc⟩ := p
    rw [List.getElem?_map] at hi
    obtain ⟨word, hw, rfl⟩ := Option.map_eq_some_iff.mp hi
    have lt : i < (sortS names).length := (List.getElem?_eq_some_iff.mp hw).1
    walk_at "s"
    refine ⟨d, p2, _, rfl, dc.dice, SqL.of epl, ne2, by rw [List.length_map, l2]; decide, fun m G4 ys pm nm em dc4 => ?_⟩
    obtain ⟨ml, rfl, pml⟩ := strs_perm pm
    have nmd : m ≠ d := fun e => (dc.dice.ne nm) e.symm
    walk_at "s"
    refine ⟨d, 3, rfl, dc4.dice, by decide, by decide, fun r1 G5 r10 r11 dc5 => ?_⟩
    walk_at "s"
    have em5 := dc5.keep _ _ nmd em
    have lml : ml.length = 4 := by rw [pml.length_eq, l2]
    refine l_slL (SqL.of em5) fun t G6 nt st et => ?_
    rw [cut_to (by omega) (by rw [List.length_map]; omega), ← List.map_take] at et
    walk_at "s"
    refine ⟨d, 3, rfl, (dc5.dice.same st), by decide, by decide, fun r2 G7 r20 r21 dc7 => ?_⟩
    walk_at "s"
    have dc57 := ((dc.trans dc4).trans dc5).same st
    have ntd : t ≠ d := fun e => by
      obtain ⟨_, _, _, z⟩ := dc5.dice
      rw [e, z] at nt
      cases nt
    have et7 := dc7.keep _ _ ntd et
    refine l_sortL (SqL.of et7) (by rw [List.length_take]; omega) fun u G8 nu su eu => ?_
    walk_at "s"
    refine l_tupL (SqL.of eu) fun an G9 na sa ea => ?_
    walk_at "s"
    refine l_newT (by show 2 ≤ sizeLine; decide) fun pr G10 npr spr epr => ?_
    walk_at "s"
    obtain ⟨tk, htk⟩ : ∃ tk : Nat, r2 = tk := Int.eq_ofNat_of_zero_le r20
    have k49 : Keep d G G10 := (((((dc4.trans dc5).same st).trans dc7).same su).same (sa.trans spr)).keep
    have eD10 := k49 _ _ nDd eD
    have rows10 := rows_keep dc.dice k49 rows
    have as_nd : (ml.take (1 + r1).toNat).Nodup := (List.take_sublist _ _).nodup (pml.nodup_iff.mpr nd2)
    have lta : (ml.take (1 + r1).toNat).length = (1 + r1).toNat := by rw [List.length_take]; omega
    have pv : PairV G10 (.ref pr) tk (sortS (ml.take (1 + r1).toNat)) := ⟨pr, an, rfl, by rw [epr, htk], spr _ _ ea⟩
    have gp : GoodP tk (sortS (ml.take (1 + r1).toNat)) := by
      refine ⟨by omega, sortS_asc as_nd, ?_, ?_, fun s hs => ?_⟩
      · rw [(sortS_perm _).length_eq, lta]
        omega
      · rw [(sortS_perm _).length_eq, lta]
        omega
      · have hs : s ∈ ml := List.mem_of_mem_take ((sortS_perm _).mem_iff.mp hs)
        have h := ok2 s (pml.mem_iff.mp hs)
        exact answer_of h.1 h.2
    have fresh : word ∉ b.map (·.1) := fun hm => by
      rw [fst] at hm
      obtain ⟨j, hj, e⟩ := List.getElem_of_mem hm
      rw [List.length_take] at hj
      rw [List.getElem_take] at e
      obtain ⟨_, e2⟩ := List.getElem?_eq_some_iff.mp hw
      exact List.pairwise_iff_getElem.mp asc.nodup j i (by omega) lt (by omega) (e.trans e2.symm)
    have lb : kvs.length = b.length := rows.len
    have lb2 : b.length ≤ 6 := by
      have := congrArg List.length fst
      rw [List.length_map, List.length_take] at this
      omega
    refine ⟨D, _, rfl, DPut.k (k := .inr word) eD10 (by rw [sizeLine_eq]; omega), ?_⟩
    have new : putK kvs (.inr word) (.ref pr) = kvs ++ [(.inr word, .ref pr)] := putK_new _ (rows10.none_ fresh)
    have dcE : Dc d H G10 := (((dc57.trans dc7).same su).same (sa.trans spr))
    refine ⟨_, _, kvs ++ [(.inr word, .ref pr)], b ++ [(word, tk, sortS (ml.take (1 + r1).toNat))], rfl, by rw [upd_same, new], ?_, ?_, fun x hx => ?_, ?_, ?_, ⟨fun a o na z => ?_, ?_⟩⟩
    · exact RowsAt.set eD10 (fun _ z => by cases z) (paired_app rows10 (.cons ⟨rfl, pv⟩ .nil))
    · rw [List.map_append, fst, List.take_add_one, hw]
      rfl
    · rcases List.mem_append.mp hx with hx | hx
      · exact good x hx
      · obtain rfl := List.mem_singleton.mp hx
        exact gp
    · rw [upd_ne nqD]
      exact k49 _ _ qd eqq
    · rw [upd_ne np2D]
      exact k49 _ _ ne2 epl
    · rw [upd_ne (ne_of_none z nHD)]
      exact dcE.keep _ _ na z
    · obtain ⟨x1, x2, x3, z⟩ := dcE.dice
      exact ⟨x1, x2, x3, by rw [upd_ne (Ne.symm nDd)]; exact z⟩
  · obtain ⟨z1, z2, kvs, b, rfl, eD, rows, fst, good, eqq, epl, dc⟩ := p
    rw [List.length_map, List.take_length] at fst
    walk_at "s"
    have lb : b.length = n := by
      have := congrArg List.length fst
      rw [List.length_map] at this
      omega
    have nm : ∀ x ∈ b, answerB1 x.1 = true := fun x hx => by
      have : x.1 ∈ b.map (·.1) := List.mem_map_of_mem hx
      rw [fst] at this
      have h := ok1 _ (perm.mem_iff.mp this)
      exact answer_of h.1 h.2
    exact k D G b ⟨⟨by rw [fst]; exact asc.nodup, nm, good, by omega, by omega⟩, by rw [fst]; exact asc⟩ nHD ⟨kvs, eD, rows⟩ dc
end
/-! ### what a call comes to -/
section
variable {w : World} {K : PySem.W.Frag} {mg : Str → Option Value} {base : Heap}
def csX (T : Txt K mg) : List Addr := [T.c_AheadError, T.c_InvalidBook, T.c_InvalidOperation, T.c_UnknownName]
theorem exm_one (T : Txt K mg) {i j : Nat} {c d : Addr} {r : List (Option Bool)} {b : Bool} (hc : (csX T)[i]? = some c) (hd : (csX T)[j]? = some d) (hr : (exTab K (csX T))[i]? = some r) (hb : r[j]? = some (some b)) : PySem.W.exmAny K (.ref c) [.ref d] = some b := by
  have h : PySem.W.exmOne K (.ref c) (.ref d) = some b := exTab_at rfl hc hd hr hb
  unfold PySem.W.exmAny
  rw [h]
  first | rfl | (cases b <;> rfl)
def MetE (T : Txt K mg) (Q : VK) : XK := fun cls d H => (cls = .ref T.c_InvalidBook ∧ ∀ G, Same H G → Q (.str "book") G) ∨ (cls = .ref T.c_InvalidOperation ∧ ∀ G, Same H G → Q (.str "operation") G) ∨
  (cls = .ref T.c_UnknownName ∧ ∃ dx x y, d = some dx ∧ H dx = some (.xd [("name", x)]) ∧ ShwT K H x y ∧ ∀ G, Same H G → Q (.str ("unknown " ++ y)) G)
def TTmet (T : Txt K mg) : (XK → Hp → VK → Prop) → Hp → VK → Prop := fun tl H Q => tl (MetE T Q) H Q
theorem tab_row (T : Txt K mg) (i : Nat) : (exTab K (csX T))[i]? = ([[some true, some false, some false, some false], [some true, some true, some false, some false], [some true, some false, some true, some false], [some false, some false, some false, some true]] : List (List (Option Bool)))[i]? := by
  rw [show csX T = [T.c_AheadError, T.c_InvalidBook, T.c_InvalidOperation, T.c_UnknownName] from rfl, T.tabE]
theorem gives_met {X : Cx} (T : Txt X.K X.mg) (cdv : Value) (q : Str) (k : Nat) : GivesG X ["call", "e"] "_law_met" (defScope s__law_met) T.a__law_met cdv (defBody s__law_met) "call" q k (TTmet T) := by
  intro f c' s H Q tl room act co want
  have nd := sc__law_met.nd
  refine ⟨_, pss_one (ps_tryX (X := (cxOf CX0 X.prog X.w X.K X.mg X.base ["call", "e"] "_law_met" (defScope s__law_met) T.a__law_met cdv X.A X.stack s H (fun _ _ _ => False)).nox)
    (tb := fun W D σ H => ∃ Ech : XK, (∀ cls d (τ : L2.St) G, τ.length = 2 → Ech cls d G → W cls d τ G) ∧ σ[0]? = some (some (.ref f)) ∧ H c' = some (LamX.CodeO c' q) ∧ tl Ech H D.rt) rfl rfl nd tk0 (fun W pn xe tk _ => ?_)
    (by exact (HdsX.only (TestE.one ⟨by rfl, by decide, Or.inl T.e_InvalidBook.m⟩) (fun a pn => by exact (pss_one (ps_ret pe_str)))
      (HdsX.only (TestE.one ⟨by rfl, by decide, Or.inl T.e_InvalidOperation.m⟩) (fun a pn => by exact (pss_one (ps_ret pe_str)))
      (HdsX.as (TestE.one ⟨by rfl, by decide, Or.inl T.e_UnknownName.m⟩) (i := 1) rfl rfl (fun a pn => by exact (pss_one (ps_ret (pe_op o_addS pe_str (pe_callB (show CallR _ _ (rReprT X.K) from call_reprT ((RoomW.of room).mark _)) (by rfl) T.z_repr (by decide +kernel) (pa_cons (pe_xat (pv 1) rfl) pa_nil))))))
      HdsX.nil))))), ?_⟩
  · constructor
    intro pins s' σ H' D I h'
    obtain ⟨Ech, hW, h1, h2, h3⟩ := h'
    exact (pss_one (ps_ret (act W pn xe Ech _ _ tk hW))).run pins s' σ H' D I ⟨h1, h2, h3⟩
  · refine ⟨MetE T Q, fun cls d τ G hl hE => ?_, rfl, co, want⟩
    rcases hE with ⟨rfl, h⟩ | ⟨rfl, h⟩ | ⟨rfl, dx, x, y, rfl, hx, sh, h⟩
    · refine ⟨true, exm_one T (i := 1) (j := 1) rfl rfl (tab_row T 1) rfl, fun _ a pn na => ?_, fun z => Bool.noConfusion z⟩
      exact h _ (Same.upd0 na)
    · refine ⟨false, exm_one T (i := 2) (j := 1) rfl rfl (tab_row T 2) rfl, fun z => Bool.noConfusion z, fun _ => ?_⟩
      refine ⟨true, exm_one T (i := 2) (j := 2) rfl rfl (tab_row T 2) rfl, fun _ a pn na => ?_, fun z => Bool.noConfusion z⟩
      exact h _ (Same.upd0 na)
    · refine ⟨false, exm_one T (i := 3) (j := 1) rfl rfl (tab_row T 3) rfl, fun z => Bool.noConfusion z, fun _ => ?_⟩
      refine ⟨false, exm_one T (i := 3) (j := 2) rfl rfl (tab_row T 3) rfl, fun z => Bool.noConfusion z, fun _ => ?_⟩
      refine ⟨true, exm_one T (i := 3) (j := 3) rfl rfl (tab_row T 3) rfl, fun _ a pn na => ?_, fun z => Bool.noConfusion z⟩
      have sa : Same G (upd G a (exv a (.ref T.c_UnknownName) (some dx))) := Same.upd0 na
      have s1 : (setAt (some 1) τ a)[1]? = some (some (V.ref a)) := by
        show (τ.set 1 (some (V.ref a)))[1]? = _
        rw [List.getElem?_set_self (by omega)]
      dsimp only
      refine s_ret (s_op (s_c (s_cb (s_cons ⟨.ref a, s1, a, T.c_UnknownName, dx, _, x, rfl, ⟨xin_exv upd_same, Or.inr (sa _ _ hx)⟩, T.e_UnknownName.xf, T.e_UnknownName.no, rfl, s_nil ?_⟩))))
      refine l_reprT (sh.same sa) (l_addS ?_ (h _ sa))
      have := sh.len
      have l8 : (("unknown " : Str)).length = 8 := by decide +kernel
      omega
end
/-! ### a value that is perhaps no command -/
section
variable {w : World} {K : PySem.W.Frag} {mg : Str → Option Value} {base : Heap} {T : Txt K mg} {H G : Hp} {a : Addr} {b : PB}
theorem pairV_ext {v : V} {t : Nat} {as : List Str} (s : LamX.ExtN H G) (h : PairV H v t as) : PairV G v t as := by
  obtain ⟨pr, an, e, h1, h2⟩ := h
  exact ⟨pr, an, e, s _ _ h1 (fun _ z => by cases z), s _ _ h2 (fun _ z => by cases z)⟩
theorem outV_ext {v : V} {as : List Str} (s : LamX.ExtN H G) (h : OutV H v as) : OutV G v as := by
  obtain ⟨t, e, h1⟩ := h
  exact ⟨t, e, s _ _ h1 (fun _ z => by cases z)⟩
theorem rows_ext {kvs : List (Key × V)} (s : LamX.ExtN H G) (r : RowsAt H kvs b) : RowsAt G kvs b := Paired.mono (fun _ _ a => ⟨a.1, pairV_ext s a.2⟩) r
theorem BookAt.ext (s : LamX.ExtN H G) (h : BookAt T H a b) : BookAt T G a b := by
  obtain ⟨dx, p, o, kvs, ows, h1, h2, h3, h4, h5, h6⟩ := h
  exact ⟨dx, p, o, kvs, ows, s _ _ h1 (fun _ z => by cases z), s _ _ h2 (fun _ z => by cases z), s _ _ h3 (fun _ z => by cases z), rows_ext s h4, Paired.mono (fun _ _ a => ⟨a.1, outV_ext s a.2⟩) h5, h6⟩
theorem pairs_ext {p : Addr} (s : LamX.ExtN H G) (h : PairsAt H p b) : PairsAt G p b := by
  obtain ⟨kvs, h1, h2⟩ := h
  exact ⟨kvs, s _ _ h1 (fun _ z => by cases z), rows_ext s h2⟩
theorem gives_metK (T : Txt K mg) {X : Cx} (e1 : X.K = K) (e2 : X.mg = mg) (cdv : Value) (q : Str) (k : Nat) : GivesG X ["call", "e"] "_law_met" (defScope s__law_met) T.a__law_met cdv (defBody s__law_met) "call" q k (TTmet T) := by
  subst e1
  subst e2
  exact gives_met T cdv q k
theorem s_lam {Tb : List (Addr × Str)} {TT : (XK → Hp → VK → Prop) → Hp → VK → Prop} {t : XK → TE} {σ : L2.St} {Q : VK} (tabs : LamX.Tabs Tb H) (q : ∀ H1, LamX.ExtN H H1 → LamX.Tabs Tb H1 → TT (fun E H' Q' => t E σ H' Q') H1 Q) : LamX.tLam Tb TT t σ H Q := ⟨tabs, q⟩
theorem l_met {tl : XK → Hp → VK → Prop} {Q : VK} (q : tl (MetE T Q) H Q) : TTmet T tl H Q := q
theorem met_unk {x : V} {y : Str} {Q : VK} (sh : ShwT K H x y) (k : ∀ G, Same H G → Q (.str ("unknown " ++ y)) G) : Unk T x H (MetE T Q) := ⟨sh.shw, fun d nd => Or.inr (Or.inr ⟨rfl, d, x, y, rfl, upd_same, sh.same (Same.upd0 nd), fun G s => k G ((Same.upd0 nd).trans s)⟩)⟩
theorem found_unk {x : V} {y : Str} {Q : VK} {k' : Str × Nat × List Str → Prop} (hx : StrOr K H x) (hb : hasB b x = false) (sh : ShwT K H x y) (k : ∀ G, Same H G → Q (.str ("unknown " ++ y)) G) : Found T x H (MetE T Q) b k' := ⟨hx, Or.inr ⟨hb, met_unk sh k⟩⟩
theorem StrOr.ext {x : V} (s : LamX.ExtN H G) (h : StrOr K H x) : StrOr K G x := by
  rcases h with h | h
  · exact Or.inl h
  · exact Or.inr (NotStr.ext s h)
theorem BookAt.ins (h : BookAt T H a b) : ∃ dx fs, H a = some (.ins T.c_Book dx fs) ∧ ∀ m : Str, m ≠ "_pairs" → m ≠ "_outcomes" → fs.lookup m = none := by
  obtain ⟨dx, p, o, kvs, ows, h1, _⟩ := h
  refine ⟨dx, _, h1, fun m n1 n2 => ?_⟩
  have e1 : (m == ("_pairs" : Str)) = false := beq_eq_false_iff_ne.mpr n1
  have e2 : (m == ("_outcomes" : Str)) = false := beq_eq_false_iff_ne.mpr n2
  simp only [List.lookup, e1, e2]
def sp_stranger (T : Txt K mg) : Sp := fun vs H Q _ => ∃ (a p : Addr) (b : PB) (x : V) (y : Str), vs = [.ref a, x, .ref p] ∧ BookAt T H a b ∧ PairsAt H p b ∧ LamX.Tabs T.tabs H ∧ StrOr K H x ∧ ShwT K H x y ∧ PyData.strOk ("unknown " ++ y) = true ∧ ∀ G, LamX.ExtN H G → LamX.Tabs T.tabs G → Q (.bl true) G
theorem ok__law_stranger (T : Txt K mg) (TB : LamX.TabB base mg T.co__law_stranger T.tb__law_stranger) : FnG prog0 w K mg base CX0 20 T.a__law_stranger T.d__law_stranger ["book", "odd", "pairs"] (sp_stranger T) := by
  have G_Book___contains__ : FnG prog0 w K mg base CX0 1 T.a_Book___contains__ T.d_Book___contains__ ["self", "value"] (sp_has T) := ok_Book___contains__ T
  have G_Book___getitem__ : FnG prog0 w K mg base (L2.CX prog0 w) 3 T.a_Book___getitem__ T.d_Book___getitem__ ["self", "command"] (sp_getitem T) := ok_Book___getitem__ T
  have G_Book_takes : FnG prog0 w K mg base (L2.CX prog0 w) 5 T.a_Book_takes T.d_Book_takes ["self", "command"] (sp_takes T) := ok_Book_takes T
  have G_Book_answers : FnG prog0 w K mg base (L2.CX prog0 w) 5 T.a_Book_answers T.d_Book_answers ["self", "command"] (sp_answers T) := ok_Book_answers T
  have G_Book_outcomes : FnG prog0 w K mg base (L2.CX prog0 w) 3 T.a_Book_outcomes T.d_Book_outcomes ["self", "command"] (sp_outcomes T) := ok_Book_outcomes T
  have G_Book_without : FnG prog0 w K mg base (L2.CX prog0 w) 11 T.a_Book_without T.d_Book_without ["self", "command"] (sp_without T) := ok_Book_without T
  have hin := T.hin__law_stranger
  have hun := T.hun__law_stranger
  refine okGL T.F__law_stranger T.l__law_stranger sc__law_stranger (fun vs H Q E h => ?_) (fun A fs s H vs Q E hr h => ?_)
  · obtain ⟨a, p, b, x, y, rfl, _⟩ := h
    rfl
  obtain ⟨a, p, b, x, y, rfl, bk, pk, tabs, hx, sh, lay, k⟩ := h
  have nd := sc__law_stranger.nd
  refine ⟨_, ((pss_cons (ps_if (PW.pt (pw_and (pt_val (pe_callB call_isi (by rfl) T.z_isinstance (by decide +kernel) (pa_cons (pv 1) (pa_cons (pe_tyV (n := "str") (by rfl) T.z_str (by decide +kernel)) pa_nil)))) (pw_and1 (pt_cmpR (op_dIn hr.hu) (pv 1) (pv 2) (by rfl))))) (pss_one (ps_ret (pe_cmpR (op_ownIn T.D_Book___contains__ G_Book___contains__ (hr.down (by decide)) T.b_Book___contains__ pass0) (pv 1) (pv 0) (by rfl)))) pss_nil)
  (pss_cons (ps_set (i := 3) nd rfl (Or.inl rfl) (pe_lst (pa_cons (pe_lamF (k := 12) (Ng := ["call", "e"]) rfl T.m__law_met T.F__law_met T.b__law_met sc__law_met rfl (Or.inl rfl) (fun cdv => gives_metK T rfl rfl cdv _ _) TB rfl hin hun (hr.down (by decide)) (LamX.lamS_by (by show LamX.lamSB (defScope s__law_stranger) _ = true; decide +kernel)) rfl (fun _ _ _ _ _ => rfl) (fun A outer s H E f c hr => by exact (pe_methG (pv 0) T.o_Book.cl T.M_Book_takes G_Book_takes (hr.down (by decide)) T.b_Book_takes (pxE lam_takes (fun _ _ _ _ h => h)) (pa_cons (pv 1) pa_nil)))) pa_nil)))
  (pss_cons (ps_expr (pe_bm PySem.F.plainAttrs_list PySem.F.slot_list_append PySem.F.type_list_append mt_append (pv 3) (pa_cons (pe_lamF (k := 12) (Ng := ["call", "e"]) rfl T.m__law_met T.F__law_met T.b__law_met sc__law_met rfl (Or.inl rfl) (fun cdv => gives_metK T rfl rfl cdv _ _) TB rfl hin hun (hr.down (by decide)) (LamX.lamS_by (by show LamX.lamSB (defScope s__law_stranger) _ = true; decide +kernel)) rfl (fun _ _ _ _ _ => rfl) (fun A outer s H E f c hr => by exact (pe_methG (pv 0) T.o_Book.cl T.M_Book_answers G_Book_answers (hr.down (by decide)) T.b_Book_answers (pxE lam_takes (fun _ _ _ _ h => h)) (pa_cons (pv 1) pa_nil)))) pa_nil)))
  (pss_cons (ps_expr (pe_bm PySem.F.plainAttrs_list PySem.F.slot_list_append PySem.F.type_list_append mt_append (pv 3) (pa_cons (pe_lamF (k := 12) (Ng := ["call", "e"]) rfl T.m__law_met T.F__law_met T.b__law_met sc__law_met rfl (Or.inl rfl) (fun cdv => gives_metK T rfl rfl cdv _ _) TB rfl hin hun (hr.down (by decide)) (LamX.lamS_by (by show LamX.lamSB (defScope s__law_stranger) _ = true; decide +kernel)) rfl (fun _ _ _ _ _ => rfl) (fun A outer s H E f c hr => by exact (pe_methG (pv 0) T.o_Book.cl T.M_Book_outcomes G_Book_outcomes (hr.down (by decide)) T.b_Book_outcomes (pxE lam_takes (fun _ _ _ _ h => h)) (pa_cons (pv 1) pa_nil)))) pa_nil)))
  (pss_cons (ps_expr (pe_bm PySem.F.plainAttrs_list PySem.F.slot_list_append PySem.F.type_list_append mt_append (pv 3) (pa_cons (pe_lamF (k := 12) (Ng := ["call", "e"]) rfl T.m__law_met T.F__law_met T.b__law_met sc__law_met rfl (Or.inl rfl) (fun cdv => gives_metK T rfl rfl cdv _ _) TB rfl hin hun (hr.down (by decide)) (LamX.lamS_by (by show LamX.lamSB (defScope s__law_stranger) _ = true; decide +kernel)) rfl (fun _ _ _ _ _ => rfl) (fun A outer s H E f c hr => by exact (pe_ownAt T.D_Book___getitem__ (fun_fi T.F_Book___getitem__) G_Book___getitem__ (hr.down (by decide)) T.b_Book___getitem__ (pxE lam_takes (fun _ _ _ _ h => h)) (pv 0) (pv 1)))) pa_nil)))
  (pss_cons (ps_expr (pe_bm PySem.F.plainAttrs_list PySem.F.slot_list_append PySem.F.type_list_append mt_append (pv 3) (pa_cons (pe_lamF (k := 12) (Ng := ["call", "e"]) rfl T.m__law_met T.F__law_met T.b__law_met sc__law_met rfl (Or.inl rfl) (fun cdv => gives_metK T rfl rfl cdv _ _) TB rfl hin hun (hr.down (by decide)) (LamX.lamS_by (by show LamX.lamSB (defScope s__law_stranger) _ = true; decide +kernel)) rfl (fun _ _ _ _ _ => rfl) (fun A outer s H E f c hr => by exact (pe_methG (pv 0) T.o_Book.cl T.M_Book_without G_Book_without (hr.down (by decide)) T.b_Book_without (pxE lam_takes (fun _ _ _ _ h => h)) (pa_cons (pv 1) pa_nil)))) pa_nil)))
  (pss_one (ps_ret (pe_and (pe_cmpR op_isBl (pe_cmpR (op_ownIn T.D_Book___contains__ G_Book___contains__ (hr.down (by decide)) T.b_Book___contains__ pass0) (pv 1) (pv 0) (by rfl)) pe_bl (nomark _)) (pe_one (pe_cmpR (op_eqD hr.r.units) (pv 3) (pe_op op_rep (pe_lst (pa_cons (pe_op o_addS pe_str (pe_callB (call_reprT (RoomW.of hr)) (by rfl) T.z_repr (by decide +kernel) (pa_cons (pv 1) pa_nil))) pa_nil)) pe_int) (nomark _))))))))))))), ?_⟩
  walk_at "s"
  have strNo : ∀ {z : Str}, hasB b (.str z) = decide (z ∈ b.map (·.1)) := rfl
  obtain ⟨kvs, ekv, rkv⟩ := id pk
  have good := bk.rd.good
  rcases id hx with ⟨z, rfl⟩ | ns
  · refine l_isStr ?_
    walk_at "s"
    refine i_t rfl ?_
    walk_at "s"
    refine l_dIn (rows_get (b := b) (Or.inl ekv)) ?_
    rw [rkv.has good.raw.nd]
    walk_at "s"
    refine i_dec (fun hb => ?_) (fun hb => ?_)
    · walk_at "s"
      obtain ⟨dx, fs', ia, _⟩ := bk.ins
      refine ⟨a, dx, fs', rfl, ia, a, b, .str z, rfl, bk.rd, Or.inl ⟨z, rfl⟩, _, rfl, ?_⟩
      rw [strNo, decide_eq_true hb]
      exact k H (LamX.ExtN.refl H) tabs
    have hb : hasB b (.str z) = false := decide_eq_false hb
    have hlen : (("unknown " : Str)).length + y.length ≤ sizeLine := by
      have := sh.len
      have l8 : (("unknown " : Str)).length = 8 := by decide +kernel
      omega
    walk_at "s"
    refine s_lam tabs fun H1 e1 t1 => l_met ?_
    walk_at "s"
    have bk1 := bk.ext e1
    obtain ⟨dx1, fs1, i1, lk1⟩ := bk1.ins
    refine l_ownM i1 (lk1 _ (by decide) (by decide)) ?_
    walk_at "s"
    refine ⟨a, b, _, rfl, bk1.rd, found_unk (hx.ext e1) hb (sh.ext e1) fun G1 s1 => ?_⟩
    walk_at "s"
    refine l_newL (xs := [V.str ("unknown " ++ y)]) (by show 1 ≤ sizeLine; decide) fun L GL nL sL eL => ?_
    have x1 := e1.trans (ext_of (s1.trans sL))
    have r1 := (t1.ext s1).ext sL
    have noL := noH_of (e1.trans (ext_of s1)) nL
    clear e1 t1 bk1 i1 lk1 s1 sL nL
    walk_at "s"
    refine ⟨.ref L, rfl, Or.inl ⟨rfl, _, SqL.of eL⟩, ?_⟩
    walk_at "s"
    refine s_lam r1 fun H2 e2 t2 => l_met ?_
    walk_at "s"
    have bk2 := (bk.ext x1).ext e2
    obtain ⟨dx2, fs2, i2, lk2⟩ := bk2.ins
    refine l_ownM i2 (lk2 _ (by decide) (by decide)) ?_
    walk_at "s"
    refine ⟨a, b, _, rfl, bk2.rd, found_unk ((hx.ext x1).ext e2) hb ((sh.ext x1).ext e2) fun G2 s2 => ?_⟩
    have el2 := s2 _ _ (e2 _ _ eL (fun _ z => by cases z))
    walk_at "s"
    refine ⟨L, _, _, rfl, rfl, el2, by simp only [List.length_append, List.length_cons, List.length_nil, sizeLine_eq]; omega, ?_⟩
    have x2 := ext_upd (o := .lst ([V.str ("unknown " ++ y)] ++ [V.str ("unknown " ++ y)])) ((x1.trans e2).trans (ext_of s2)) noL
    have r2 := tabs_lst (ys := ([V.str ("unknown " ++ y)] ++ [V.str ("unknown " ++ y)])) (t2.ext s2) el2
    have eL2 := upd_same (H := G2) (a := L) (o := .lst ([V.str ("unknown " ++ y)] ++ [V.str ("unknown " ++ y)]))
    walk_at "s"
    refine ⟨.ref L, rfl, Or.inl ⟨rfl, _, SqL.of eL2⟩, ?_⟩
    walk_at "s"
    refine s_lam r2 fun H3 e3 t3 => l_met ?_
    walk_at "s"
    have bk3 := (bk.ext x2).ext e3
    obtain ⟨dx3, fs3, i3, lk3⟩ := bk3.ins
    refine l_ownM i3 (lk3 _ (by decide) (by decide)) ?_
    walk_at "s"
    refine ⟨a, b, _, rfl, bk3.rd, found_unk ((hx.ext x2).ext e3) hb ((sh.ext x2).ext e3) fun G3 s3 => ?_⟩
    have el3 := s3 _ _ (e3 _ _ eL2 (fun _ z => by cases z))
    walk_at "s"
    refine ⟨L, _, _, rfl, rfl, el3, by simp only [List.length_append, List.length_cons, List.length_nil, sizeLine_eq]; omega, ?_⟩
    have x3 := ext_upd (o := .lst (([V.str ("unknown " ++ y)] ++ [V.str ("unknown " ++ y)]) ++ [V.str ("unknown " ++ y)])) ((x2.trans e3).trans (ext_of s3)) noL
    have r3 := tabs_lst (ys := (([V.str ("unknown " ++ y)] ++ [V.str ("unknown " ++ y)]) ++ [V.str ("unknown " ++ y)])) (t3.ext s3) el3
    have eL3 := upd_same (H := G3) (a := L) (o := .lst (([V.str ("unknown " ++ y)] ++ [V.str ("unknown " ++ y)]) ++ [V.str ("unknown " ++ y)]))
    walk_at "s"
    refine ⟨.ref L, rfl, Or.inl ⟨rfl, _, SqL.of eL3⟩, ?_⟩
    walk_at "s"
    refine s_lam r3 fun H4 e4 t4 => l_met ?_
    walk_at "s"
    have bk4 := (bk.ext x3).ext e4
    obtain ⟨dx4, fs4, i4, lk4⟩ := bk4.ins
    refine ⟨a, dx4, fs4, rfl, i4, a, b, _, rfl, bk4.rd, found_unk ((hx.ext x3).ext e4) hb ((sh.ext x3).ext e4) fun G4 s4 => ?_⟩
    have el4 := s4 _ _ (e4 _ _ eL3 (fun _ z => by cases z))
    walk_at "s"
    refine ⟨L, _, _, rfl, rfl, el4, by simp only [List.length_append, List.length_cons, List.length_nil, sizeLine_eq]; omega, ?_⟩
    have x4 := ext_upd (o := .lst ((([V.str ("unknown " ++ y)] ++ [V.str ("unknown " ++ y)]) ++ [V.str ("unknown " ++ y)]) ++ [V.str ("unknown " ++ y)])) ((x3.trans e4).trans (ext_of s4)) noL
    have r4 := tabs_lst (ys := ((([V.str ("unknown " ++ y)] ++ [V.str ("unknown " ++ y)]) ++ [V.str ("unknown " ++ y)]) ++ [V.str ("unknown " ++ y)])) (t4.ext s4) el4
    have eL4 := upd_same (H := G4) (a := L) (o := .lst ((([V.str ("unknown " ++ y)] ++ [V.str ("unknown " ++ y)]) ++ [V.str ("unknown " ++ y)]) ++ [V.str ("unknown " ++ y)]))
    walk_at "s"
    refine ⟨.ref L, rfl, Or.inl ⟨rfl, _, SqL.of eL4⟩, ?_⟩
    walk_at "s"
    refine s_lam r4 fun H5 e5 t5 => l_met ?_
    walk_at "s"
    have bk5 := (bk.ext x4).ext e5
    obtain ⟨dx5, fs5, i5, lk5⟩ := bk5.ins
    refine l_ownM i5 (lk5 _ (by decide) (by decide)) ?_
    walk_at "s"
    refine ⟨a, b, _, rfl, bk5, found_unk ((hx.ext x4).ext e5) hb ((sh.ext x4).ext e5) fun G5 s5 => ?_⟩
    have el5 := s5 _ _ (e5 _ _ eL4 (fun _ z => by cases z))
    walk_at "s"
    refine ⟨L, _, _, rfl, rfl, el5, by simp only [List.length_append, List.length_cons, List.length_nil, sizeLine_eq]; omega, ?_⟩
    have x5 := ext_upd (o := .lst (((([V.str ("unknown " ++ y)] ++ [V.str ("unknown " ++ y)]) ++ [V.str ("unknown " ++ y)]) ++ [V.str ("unknown " ++ y)]) ++ [V.str ("unknown " ++ y)])) ((x4.trans e5).trans (ext_of s5)) noL
    have r5 := tabs_lst (ys := (((([V.str ("unknown " ++ y)] ++ [V.str ("unknown " ++ y)]) ++ [V.str ("unknown " ++ y)]) ++ [V.str ("unknown " ++ y)]) ++ [V.str ("unknown " ++ y)])) (t5.ext s5) el5
    have eL5 := upd_same (H := G5) (a := L) (o := .lst (((([V.str ("unknown " ++ y)] ++ [V.str ("unknown " ++ y)]) ++ [V.str ("unknown " ++ y)]) ++ [V.str ("unknown " ++ y)]) ++ [V.str ("unknown " ++ y)]))
    walk_at "s"
    have bk6 := bk.ext x5
    obtain ⟨dx6, fs6, i6, lk6⟩ := bk6.ins
    refine ⟨a, dx6, fs6, rfl, i6, a, b, _, rfl, bk6.rd, hx.ext x5, _, rfl, ?_⟩
    walk_at "s"
    refine ⟨_, _, rfl, rfl, l_bl (i_t (by rw [hb]; rfl) ?_)⟩
    walk_at "s"
    refine l_reprT (sh.ext x5) ?_
    walk_at "s"
    refine l_newL (xs := [V.str ("unknown " ++ y)]) (by show 1 ≤ sizeLine; decide) fun R GR nR sR eR => ?_
    walk_at "s"
    refine l_rep eR (by decide) (by decide) (by simp only [List.length_cons, List.length_nil, sizeLine_eq]; omega) fun R2 GR2 nR2 sR2 eR2 => ?_
    have d5 : DpAll K GR2 (List.replicate 5 (V.str ("unknown " ++ y))) (List.replicate 5 (PyData.str ("unknown " ++ y))) := .cons (.str _) (.cons (.str _) (.cons (.str _) (.cons (.str _) (.cons (.str _) .nil))))
    have sd : SeqAt.shaped (.list (List.replicate 5 (PyData.str ("unknown " ++ y)))) = true := by
      unfold SeqAt.shaped
      simp only [PyData.canLay0, PyData.canLayAll0, PyData.depth, PyData.depthAll, List.replicate, lay]
      rfl
    have el6 := sR2 _ _ (sR _ _ eL5)
    refine l_eqD (.lst (SqL.of el6) d5) (.lst (SqL.of eR2) d5) sd sd ?_
    rw [SeqAt.eqv_refl _ (SeqAt.canLay_of_shaped sd)]
    exact k GR2 (x5.trans (ext_of (sR.trans sR2))) ((r5.ext sR).ext sR2)
  · refine l_notStr ns ?_
    walk_at "s"
    refine i_f rfl ?_
    refine i_f rfl ?_
    have hb := hasB_no b ns
    have hlen : (("unknown " : Str)).length + y.length ≤ sizeLine := by
      have := sh.len
      have l8 : (("unknown " : Str)).length = 8 := by decide +kernel
      omega
    walk_at "s"
    refine s_lam tabs fun H1 e1 t1 => l_met ?_
    walk_at "s"
    have bk1 := bk.ext e1
    obtain ⟨dx1, fs1, i1, lk1⟩ := bk1.ins
    refine l_ownM i1 (lk1 _ (by decide) (by decide)) ?_
    walk_at "s"
    refine ⟨a, b, _, rfl, bk1.rd, found_unk (hx.ext e1) hb (sh.ext e1) fun G1 s1 => ?_⟩
    walk_at "s"
    refine l_newL (xs := [V.str ("unknown " ++ y)]) (by show 1 ≤ sizeLine; decide) fun L GL nL sL eL => ?_
    have x1 := e1.trans (ext_of (s1.trans sL))
    have r1 := (t1.ext s1).ext sL
    have noL := noH_of (e1.trans (ext_of s1)) nL
    clear e1 t1 bk1 i1 lk1 s1 sL nL
    walk_at "s"
    refine ⟨.ref L, rfl, Or.inl ⟨rfl, _, SqL.of eL⟩, ?_⟩
    walk_at "s"
    refine s_lam r1 fun H2 e2 t2 => l_met ?_
    walk_at "s"
    have bk2 := (bk.ext x1).ext e2
    obtain ⟨dx2, fs2, i2, lk2⟩ := bk2.ins
    refine l_ownM i2 (lk2 _ (by decide) (by decide)) ?_
    walk_at "s"
    refine ⟨a, b, _, rfl, bk2.rd, found_unk ((hx.ext x1).ext e2) hb ((sh.ext x1).ext e2) fun G2 s2 => ?_⟩
    have el2 := s2 _ _ (e2 _ _ eL (fun _ z => by cases z))
    walk_at "s"
    refine ⟨L, _, _, rfl, rfl, el2, by simp only [List.length_append, List.length_cons, List.length_nil, sizeLine_eq]; omega, ?_⟩
    have x2 := ext_upd (o := .lst ([V.str ("unknown " ++ y)] ++ [V.str ("unknown " ++ y)])) ((x1.trans e2).trans (ext_of s2)) noL
    have r2 := tabs_lst (ys := ([V.str ("unknown " ++ y)] ++ [V.str ("unknown " ++ y)])) (t2.ext s2) el2
    have eL2 := upd_same (H := G2) (a := L) (o := .lst ([V.str ("unknown " ++ y)] ++ [V.str ("unknown " ++ y)]))
    walk_at "s"
    refine ⟨.ref L, rfl, Or.inl ⟨rfl, _, SqL.of eL2⟩, ?_⟩
    walk_at "s"
    refine s_lam r2 fun H3 e3 t3 => l_met ?_
    walk_at "s"
    have bk3 := (bk.ext x2).ext e3
    obtain ⟨dx3, fs3, i3, lk3⟩ := bk3.ins
    refine l_ownM i3 (lk3 _ (by decide) (by decide)) ?_
    walk_at "s"
    refine ⟨a, b, _, rfl, bk3.rd, found_unk ((hx.ext x2).ext e3) hb ((sh.ext x2).ext e3) fun G3 s3 => ?_⟩
    have el3 := s3 _ _ (e3 _ _ eL2 (fun _ z => by cases z))
    walk_at "s"
    refine ⟨L, _, _, rfl, rfl, el3, by simp only [List.length_append, List.length_cons, List.length_nil, sizeLine_eq]; omega, ?_⟩
    have x3 := ext_upd (o := .lst (([V.str ("unknown " ++ y)] ++ [V.str ("unknown " ++ y)]) ++ [V.str ("unknown " ++ y)])) ((x2.trans e3).trans (ext_of s3)) noL
    have r3 := tabs_lst (ys := (([V.str ("unknown " ++ y)] ++ [V.str ("unknown " ++ y)]) ++ [V.str ("unknown " ++ y)])) (t3.ext s3) el3
    have eL3 := upd_same (H := G3) (a := L) (o := .lst (([V.str ("unknown " ++ y)] ++ [V.str ("unknown " ++ y)]) ++ [V.str ("unknown " ++ y)]))
    walk_at "s"
    refine ⟨.ref L, rfl, Or.inl ⟨rfl, _, SqL.of eL3⟩, ?_⟩
    walk_at "s"
    refine s_lam r3 fun H4 e4 t4 => l_met ?_
    walk_at "s"
    have bk4 := (bk.ext x3).ext e4
    obtain ⟨dx4, fs4, i4, lk4⟩ := bk4.ins
    refine ⟨a, dx4, fs4, rfl, i4, a, b, _, rfl, bk4.rd, found_unk ((hx.ext x3).ext e4) hb ((sh.ext x3).ext e4) fun G4 s4 => ?_⟩
    have el4 := s4 _ _ (e4 _ _ eL3 (fun _ z => by cases z))
    walk_at "s"
    refine ⟨L, _, _, rfl, rfl, el4, by simp only [List.length_append, List.length_cons, List.length_nil, sizeLine_eq]; omega, ?_⟩
    have x4 := ext_upd (o := .lst ((([V.str ("unknown " ++ y)] ++ [V.str ("unknown " ++ y)]) ++ [V.str ("unknown " ++ y)]) ++ [V.str ("unknown " ++ y)])) ((x3.trans e4).trans (ext_of s4)) noL
    have r4 := tabs_lst (ys := ((([V.str ("unknown " ++ y)] ++ [V.str ("unknown " ++ y)]) ++ [V.str ("unknown " ++ y)]) ++ [V.str ("unknown " ++ y)])) (t4.ext s4) el4
    have eL4 := upd_same (H := G4) (a := L) (o := .lst ((([V.str ("unknown " ++ y)] ++ [V.str ("unknown " ++ y)]) ++ [V.str ("unknown " ++ y)]) ++ [V.str ("unknown " ++ y)]))
    walk_at "s"
    refine ⟨.ref L, rfl, Or.inl ⟨rfl, _, SqL.of eL4⟩, ?_⟩
    walk_at "s"
    refine s_lam r4 fun H5 e5 t5 => l_met ?_
    walk_at "s"
    have bk5 := (bk.ext x4).ext e5
    obtain ⟨dx5, fs5, i5, lk5⟩ := bk5.ins
    refine l_ownM i5 (lk5 _ (by decide) (by decide)) ?_
    walk_at "s"
    refine ⟨a, b, _, rfl, bk5, found_unk ((hx.ext x4).ext e5) hb ((sh.ext x4).ext e5) fun G5 s5 => ?_⟩
    have el5 := s5 _ _ (e5 _ _ eL4 (fun _ z => by cases z))
    walk_at "s"
    refine ⟨L, _, _, rfl, rfl, el5, by simp only [List.length_append, List.length_cons, List.length_nil, sizeLine_eq]; omega, ?_⟩
    have x5 := ext_upd (o := .lst (((([V.str ("unknown " ++ y)] ++ [V.str ("unknown " ++ y)]) ++ [V.str ("unknown " ++ y)]) ++ [V.str ("unknown " ++ y)]) ++ [V.str ("unknown " ++ y)])) ((x4.trans e5).trans (ext_of s5)) noL
    have r5 := tabs_lst (ys := (((([V.str ("unknown " ++ y)] ++ [V.str ("unknown " ++ y)]) ++ [V.str ("unknown " ++ y)]) ++ [V.str ("unknown " ++ y)]) ++ [V.str ("unknown " ++ y)])) (t5.ext s5) el5
    have eL5 := upd_same (H := G5) (a := L) (o := .lst (((([V.str ("unknown " ++ y)] ++ [V.str ("unknown " ++ y)]) ++ [V.str ("unknown " ++ y)]) ++ [V.str ("unknown " ++ y)]) ++ [V.str ("unknown " ++ y)]))
    walk_at "s"
    have bk6 := bk.ext x5
    obtain ⟨dx6, fs6, i6, lk6⟩ := bk6.ins
    refine ⟨a, dx6, fs6, rfl, i6, a, b, _, rfl, bk6.rd, hx.ext x5, _, rfl, ?_⟩
    walk_at "s"
    refine ⟨_, _, rfl, rfl, l_bl (i_t (by rw [hb]; rfl) ?_)⟩
    walk_at "s"
    refine l_reprT (sh.ext x5) ?_
    walk_at "s"
    refine l_newL (xs := [V.str ("unknown " ++ y)]) (by show 1 ≤ sizeLine; decide) fun R GR nR sR eR => ?_
    walk_at "s"
    refine l_rep eR (by decide) (by decide) (by simp only [List.length_cons, List.length_nil, sizeLine_eq]; omega) fun R2 GR2 nR2 sR2 eR2 => ?_
    have d5 : DpAll K GR2 (List.replicate 5 (V.str ("unknown " ++ y))) (List.replicate 5 (PyData.str ("unknown " ++ y))) := .cons (.str _) (.cons (.str _) (.cons (.str _) (.cons (.str _) (.cons (.str _) .nil))))
    have sd : SeqAt.shaped (.list (List.replicate 5 (PyData.str ("unknown " ++ y)))) = true := by
      unfold SeqAt.shaped
      simp only [PyData.canLay0, PyData.canLayAll0, PyData.depth, PyData.depthAll, List.replicate, lay]
      rfl
    have el6 := sR2 _ _ (sR _ _ eL5)
    refine l_eqD (.lst (SqL.of el6) d5) (.lst (SqL.of eR2) d5) sd sd ?_
    rw [SeqAt.eqv_refl _ (SeqAt.canLay_of_shaped sd)]
    exact k GR2 (x5.trans (ext_of (sR.trans sR2))) ((r5.ext sR).ext sR2)
end
/-! ### whether a book tells what a dict tells -/
section
variable {w : World} {K : PySem.W.Frag} {mg : Str → Option Value} {base : Heap}
def sp__law_outcomes : Sp := fun vs H Q _ => ∃ (p : Addr) (b : PB) (e : Str × Nat × List Str), vs = [.ref p, .str e.1] ∧ PairsAt H p b ∧ RawB b ∧ e ∈ b ∧ ∀ q G, H q = none → Same H G → G q = some (.lst ((outs e.2.2).map V.str)) → Q (.ref q) G
theorem ok__law_outcomes (T : Txt K mg) : FnG prog0 w K mg base CX0 1 T.a__law_outcomes T.d__law_outcomes ["pairs", "command"] sp__law_outcomes := by
  refine okG T.F__law_outcomes sc__law_outcomes (fun vs H Q E h => ?_) (fun cdv A fs s H vs Q E hr h => ?_)
  · obtain ⟨p, b, e, rfl, _⟩ := h
    rfl
  obtain ⟨p, b, e, rfl, ⟨kvs, ep, rows⟩, raw, he, k⟩ := h
  have nd := sc__law_outcomes.nd
  have gp := raw.pr e he
  refine ⟨_, ((pss_one (ps_ret (pe_callB cr_sortedS (by rfl) T.z_sorted (by decide +kernel) (pa_cons (pe_op op_cat (pe_callTy c_list (by rfl) T.z_list (by decide +kernel) (pa_cons (pe_ix ix_tup (pe_dget hr.hu (pv 0) (pv 1) (fun _ _ => rfl)) pe_int (fun _ _ => rfl)) pa_nil)) (pe_lst (pa_cons pe_str pa_nil))) pa_nil))))), ?_⟩
  obtain ⟨v, ev, pr, an, rfl, h1, h2⟩ := rows.find raw.nd he
  walk_at "s"
  refine ⟨p, .ref pr, rfl, ?_, ?_⟩
  · rw [← ev]
    exact rows_get (b := b) (Or.inl ep)
  walk_at "s"
  refine l_ixT (tup_at h1) at1 ?_
  walk_at "s"
  refine l_listT (tup_at h2) fun m G nm sm em => ?_
  walk_at "s"
  refine l_newL (xs := [V.str "failed"]) (by show 1 ≤ sizeLine; decide) fun q G2 nq sq eq => ?_
  refine l_cat (sq _ _ em) eq (by rw [List.length_map, sizeLine_eq]; have := gp.2.2.2.1; simp; omega) fun r G3 nr sr er => ?_
  walk_at "s"
  have er' : G3 r = some (.lst ((e.2.2 ++ [("failed" : Str)]).map V.str)) := by
    rw [er, List.map_append]
    rfl
  refine l_sortL (SqL.of er') (by rw [List.length_append]; have := gp.2.2.2.1; simp; omega) fun t G4 nt st et => ?_
  have s04 := ((sm.trans sq).trans sr).trans st
  exact k t G4 (none_same ((sm.trans sq).trans sr) nt) s04 et
theorem empty_app (x : Str) : Str.empty ++ x = x := by
  refine str_ext ?_
  show (Str.empty.cps ++ x.cps).toList = _
  rw [Array.toList_append]
  rfl
theorem sml_txt {s : Str} (h : nameB s = true) : Sml 4002 0 (.str s) := (sml_str (k := 400) (name_txt h).1 (name_txt h).2)
theorem sml_row {l : List Str} (h : ∀ s ∈ l, nameB s = true) (n : l.length ≤ 20) : Sml 100000 1 (.tuple (l.map PyData.str)) := by
  have q := sml_tup (n := 4002) (m := 0) (ds := l.map PyData.str) fun d hd => by
    obtain ⟨s, hs, rfl⟩ := List.mem_map.mp hd
    exact sml_txt (h s hs)
  rw [List.length_map] at q
  exact q.up (by omega) (by omega)
theorem outs_names {as : List Str} (h : ∀ s ∈ as, answerB1 s = true) : ∀ s ∈ outs as, nameB s = true := fun s hs => by
  have := (sortS_perm _).mem_iff.mp hs
  rcases List.mem_append.mp this with q | q
  · exact answer_name (h s q)
  · rw [List.mem_singleton.mp q]
    decide +kernel
def dueD (e : Str × Nat × List Str) : PyData := .list [.int e.2.1, .tuple (e.2.2.map PyData.str), .tuple ((outs e.2.2).map PyData.str), pairD e.2, .bool true]
theorem sml_due {e : Str × Nat × List Str} (g : GoodP e.2.1 e.2.2) : Sml 3000000 3 (dueD e) := by
  have a1 : Sml 1921 0 (.int (e.2.1 : Int)) := sml_int (Nat.lt_of_le_of_lt (Nat.log2_le_self _) (by have := g.1; omega))
  have a2 := sml_row (fun s hs => answer_name (g.2.2.2.2 s hs)) (by have := g.2.2.2.1; omega)
  have a3 := sml_row (outs_names g.2.2.2.2) (by unfold outs; rw [(sortS_perm _).length_eq, List.length_append]; have := g.2.2.2.1; simp; omega)
  have a4 : Sml 300000 2 (pairD e.2) := by
    have q := sml_tup (n := 100000) (m := 1) (ds := [.int e.2.1, .tuple (e.2.2.map PyData.str)]) fun d hd => by
      simp only [List.mem_cons, List.not_mem_nil, or_false] at hd
      rcases hd with rfl | rfl
      · exact a1.up (by omega) (by omega)
      · exact a2
    exact q.up (by simp only [List.length_cons, List.length_nil]; omega) (by omega)
  have q := sml_list (n := 300000) (m := 2) (ds := [.int e.2.1, .tuple (e.2.2.map PyData.str), .tuple ((outs e.2.2).map PyData.str), pairD e.2, .bool true]) fun d hd => by
    simp only [List.mem_cons, List.not_mem_nil, or_false] at hd
    rcases hd with rfl | rfl | rfl | rfl | rfl
    · exact a1.up (by omega) (by omega)
    · exact a2.up (by omega) (by omega)
    · exact a3.up (by omega) (by omega)
    · exact a4
    · exact (sml_bl true).up (by omega) (by omega)
  exact q.up (by simp only [List.length_cons, List.length_nil]; omega) (by omega)
theorem ne_same {σ : L2.St} {x : Str} {H : Hp} {Q : VK} (q : Q (.bl false) H) : rNe (.str x) (.str x) H Q := ⟨rfl, by rw [decide_eq_true rfl]; exact q⟩
def sp_is_right (T : Txt K mg) : Sp := fun vs H Q _ => ∃ (a p : Addr) (c : PB), vs = [.ref a, .ref p] ∧ BookAt T H a (sortB c) ∧ PairsAt H p c ∧ RawB c ∧ ∀ G, Same H G → Q (.bl true) G
theorem ok__law_is_right (T : Txt K mg) : FnG prog0 w K mg base CX0 7 T.a__law_is_right T.d__law_is_right ["book", "pairs"] (sp_is_right T) := by
  have G__law_outcomes : FnG prog0 w K mg base CX0 1 T.a__law_outcomes T.d__law_outcomes ["pairs", "command"] sp__law_outcomes := ok__law_outcomes T
  have G_Book___contains__ : FnG prog0 w K mg base CX0 1 T.a_Book___contains__ T.d_Book___contains__ ["self", "value"] (sp_has T) := ok_Book___contains__ T
  have G_Book___len__ : FnG prog0 w K mg base CX0 1 T.a_Book___len__ T.d_Book___len__ ["self"] (sp_len T) := ok_Book___len__ T
  have G_Book___str__ : FnG prog0 w K mg base CX0 1 T.a_Book___str__ T.d_Book___str__ ["self"] (sp_str T) := ok_Book___str__ T
  have G_Book_commands : FnG prog0 w K mg base CX0 1 T.a_Book_commands T.d_Book_commands ["self"] (sp_commands T) := ok_Book_commands T
  have G_Book___getitem__ : FnG prog0 w K mg base (L2.CX prog0 w) 3 T.a_Book___getitem__ T.d_Book___getitem__ ["self", "command"] (sp_getitem T) := ok_Book___getitem__ T
  have G_Book_takes : FnG prog0 w K mg base (L2.CX prog0 w) 5 T.a_Book_takes T.d_Book_takes ["self", "command"] (sp_takes T) := ok_Book_takes T
  have G_Book_answers : FnG prog0 w K mg base (L2.CX prog0 w) 5 T.a_Book_answers T.d_Book_answers ["self", "command"] (sp_answers T) := ok_Book_answers T
  have G_Book_outcomes : FnG prog0 w K mg base (L2.CX prog0 w) 3 T.a_Book_outcomes T.d_Book_outcomes ["self", "command"] (sp_outcomes T) := ok_Book_outcomes T
  refine okG T.F__law_is_right sc__law_is_right (fun vs H Q E h => ?_) (fun cdv A fs s H vs Q E hr h => ?_)
  · obtain ⟨a, p, c, rfl, _⟩ := h
    rfl
  obtain ⟨a, p, c, rfl, bk, pk, raw, k⟩ := h
  obtain ⟨kvs, ep, rows⟩ := id pk
  have nd := sc__law_is_right.nd
  have HP := @PassesOwn.never
  have n6 := raw.n6
  have lb : (sortB c).length = c.length := (sortB_perm c).length_eq
  have fst : (sortB c).map (·.1) = sortS (c.map (·.1)) := sortB_fst c
  have nmS : ∀ s ∈ sortS (c.map (·.1)), nameB s = true := fun s hs => by
    obtain ⟨x, hx, rfl⟩ := List.mem_map.mp ((sortS_perm _).mem_iff.mp hs)
    exact answer_name (raw.nm x hx)
  have lS : (sortS (c.map (·.1))).length = c.length := by rw [(sortS_perm _).length_eq, List.length_map]
  obtain ⟨dx, fs0, ia, lk⟩ := bk.ins
  refine ⟨_, ((pss_cons (ps_set (i := 2) nd rfl (Or.inl rfl) (pe_callB (call_sortedK rfl) (by rfl) T.z_sorted (by decide +kernel) (pa_cons (pv 1) pa_nil)))
  (pss_cons (ps_if (PW.pt (pw_or (pt_cmpR op_ne (pe_callB (call_reprD hr) (by rfl) T.z_repr (by decide +kernel) (pa_cons (pe_propG (pv 0) T.o_Book.cl T.P_Book_commands G_Book_commands (hr.down (by decide)) T.b_Book_commands pass0) pa_nil)) (pe_callB (call_reprD hr) (by rfl) T.z_repr (by decide +kernel) (pa_cons (pe_callTy c_tuple (by rfl) T.z_tuple (by decide +kernel) (pa_cons (pv 2) pa_nil)) pa_nil)) (nomark _)) (pw_or1 (pt_cmpR op_ne (pe_callB (call_ownLen T.D_Book___len__ G_Book___len__ (hr.down (by decide)) T.b_Book___len__ pass0) (by rfl) T.z_len (by decide +kernel) (pa_cons (pv 0) pa_nil)) (pe_callB c_len (by rfl) T.z_len (by decide +kernel) (pa_cons (pv 2) pa_nil)) (nomark _))))) (pss_one (ps_ret pe_bl)) pss_nil)
  (pss_cons (ps_if (PW.pt (pw_or (pt_cmpR op_ne (pe_callTy (call_ownStr T.D_Book___str__ G_Book___str__ (hr.down (by decide)) T.b_Book___str__ pass0) (by rfl) T.z_str (by decide +kernel) (pa_cons (pv 0) pa_nil)) (pe_op o_addS (pe_op o_addS pe_str (pe_callTy call_str_int (by rfl) T.z_str (by decide +kernel) (pa_cons (pe_callB c_len (by rfl) T.z_len (by decide +kernel) (pa_cons (pv 2) pa_nil)) pa_nil))) pe_str) (nomark _)) (pw_or1 (pt_not (pt_val (pe_callB call_isi (by rfl) T.z_isinstance (by decide +kernel) (pa_cons (pv 0) (pa_cons (pe_glob (v := .ref T.c_Book) rfl T.m_Book rfl) pa_nil)))))))) (pss_one (ps_ret pe_bl)) pss_nil)
  (pss_cons (ps_for HP rfl (pi_list (pv 2)) (pg_name (i := 3) nd rfl (Or.inl rfl)) (pss_cons (ps_set (i := 4) nd rfl (Or.inl rfl) (pe_lst (pa_cons (pe_ix ix_tup (pe_dget hr.hu (pv 1) (pv 3) (fun _ _ => rfl)) pe_int (fun _ _ => rfl)) (pa_cons (pe_ix ix_tup (pe_dget hr.hu (pv 1) (pv 3) (fun _ _ => rfl)) pe_int (fun _ _ => rfl)) (pa_cons (pe_callTy c_tuple (by rfl) T.z_tuple (by decide +kernel) (pa_cons (pe_callG G__law_outcomes (hr.down (by decide)) rfl T.m__law_outcomes T.F__law_outcomes.kp T.b__law_outcomes .nil pass0 (pa_cons (pv 1) (pa_cons (pv 3) pa_nil))) pa_nil)) (pa_cons (pe_dget hr.hu (pv 1) (pv 3) (fun _ _ => rfl)) (pa_cons pe_bl pa_nil)))))))
  (pss_one (ps_if (pt_cmpR op_ne (pe_callB (call_reprD hr) (by rfl) T.z_repr (by decide +kernel) (pa_cons (pe_lst (pa_cons (pe_methG (pv 0) T.o_Book.cl T.M_Book_takes G_Book_takes (hr.down (by decide)) T.b_Book_takes passN (pa_cons (pv 3) pa_nil)) (pa_cons (pe_methG (pv 0) T.o_Book.cl T.M_Book_answers G_Book_answers (hr.down (by decide)) T.b_Book_answers passN (pa_cons (pv 3) pa_nil)) (pa_cons (pe_methG (pv 0) T.o_Book.cl T.M_Book_outcomes G_Book_outcomes (hr.down (by decide)) T.b_Book_outcomes passN (pa_cons (pv 3) pa_nil)) (pa_cons (pe_ownAt T.D_Book___getitem__ (fun_fi T.F_Book___getitem__) G_Book___getitem__ (hr.down (by decide)) T.b_Book___getitem__ passN (pv 0) (pv 3)) (pa_cons (pe_cmpR (op_ownIn T.D_Book___contains__ G_Book___contains__ (hr.down (by decide)) T.b_Book___contains__ pass0) (pv 3) (pv 0) (by rfl)) pa_nil)))))) pa_nil)) (pe_callB (call_reprD hr) (by rfl) T.z_repr (by decide +kernel) (pa_cons (pv 4) pa_nil)) (nomark _)) (pss_one (ps_ret pe_bl)) pss_nil))))
  (pss_one (ps_ret pe_bl))))))), ?_⟩
  walk_at "s"
  refine l_sortD (Or.inl ep) rows.keys (by rw [List.length_map]; omega) fun q G nq sq eq => ?_
  walk_at "s"
  have bk1 := bk.same sq
  have ia1 := sq _ _ ia
  refine ⟨a, dx, fs0, rfl, ia1, a, sortB c, rfl, bk1.rd, fun t G2 nt st et => ?_⟩
  rw [fst] at et
  walk_at "s"
  have sm := sml_row nmS (by omega)
  refine l_repr (.tup (tup_at et) (dp_strs _)) sm.sh sm.nd (by have := sm.dp; omega) (by have := sm.ln; rw [sizeLine_eq]; omega) ?_
  walk_at "s"
  refine l_tupL (SqL.of (st _ _ eq)) fun t2 G3 nt2 st2 et2 => ?_
  walk_at "s"
  refine l_repr (.tup (tup_at et2) (dp_strs _)) sm.sh sm.nd (by have := sm.dp; omega) (by have := sm.ln; rw [sizeLine_eq]; omega) ?_
  walk_at "s"
  refine i_f (by rw [decide_eq_true rfl]; rfl) ?_
  walk_at "s"
  have s03 := (sq.trans st).trans st2
  have bk3 := bk.same s03
  refine ⟨.ref a, rfl, a, dx, fs0, rfl, s03 _ _ ia, a, sortB c, rfl, bk3.rd, _, rfl, by omega, ?_⟩
  walk_at "s"
  have eq3 := st2 _ _ (st _ _ eq)
  refine l_lenL (SqL.of eq3) ?_
  walk_at "s"
  refine i_f (by rw [List.length_map, lS, lb, decide_eq_true rfl]; rfl) ?_
  walk_at "s"
  have ia3 := s03 _ _ ia
  have tx : ∀ n : Nat, n ≤ 6 → ((toString (n : Int) : Str)).length ≤ 6 := fun n hn => by
    match n, hn with
    | 0, _ | 1, _ | 2, _ | 3, _ | 4, _ | 5, _ | 6, _ => decide +kernel
    | n + 7, h => omega
  have t6 := tx c.length n6
  have l7 : (("book of " : Str)).length = 8 := by decide +kernel
  have l9 : ((" commands" : Str)).length = 9 := by decide +kernel
  refine ⟨.ref a, rfl, a, dx, fs0, rfl, ia3, a, sortB c, rfl, bk3.rd, _, rfl, ?_⟩
  walk_at "s"
  rw [List.length_map, lS]
  refine ⟨_, rfl, Nat.lt_of_le_of_lt (Nat.log2_le_self _) (by omega), ?_⟩
  have a1 : (("book of " : Str)).length + ((toString (c.length : Int) : Str)).length ≤ sizeLine := by
    rw [sizeLine_eq]
    omega
  have a2 : ((("book of " : Str)) ++ ((toString (c.length : Int) : Str))).length + ((" commands" : Str)).length ≤ sizeLine := by
    rw [append_len, sizeLine_eq]
    omega
  refine l_addS a1 ?_
  walk_at "s"
  have et : bookText (sortB c).length = (("book of " : Str) ++ (toString (c.length : Int) : Str)) ++ (" commands" : Str) := by
    unfold bookText
    rw [empty_app, lb]
  rw [et]
  refine i_f (by rw [decide_eq_true rfl]; rfl) ?_
  walk_at "s"
  refine l_isOwn T.o_Book ia3 ?_
  walk_at "s"
  refine i_f rfl ?_
  walk_at "s"
  refine l_forL (SqL.of eq3) (fun i τ G => ∃ z1 z2 : Option V, τ = [some (.ref a), some (.ref p), some (.ref q), z1, z2] ∧ Same G3 G) ⟨_, _, rfl, Same.refl _⟩ (fun i τ G _ z => by
    obtain ⟨_, _, _, s⟩ := z
    exact SqL.of (s _ _ eq3)) (fun i x τ G hi z => ?_) (fun τ G z => ?_)
  · obtain ⟨z1, z2, rfl, sG⟩ := z
    rw [List.getElem?_map] at hi
    obtain ⟨n, hn, rfl⟩ := Option.map_eq_some_iff.mp hi
    have hn := List.mem_of_getElem? hn
    rw [← fst] at hn
    obtain ⟨e, he, rfl⟩ := List.mem_map.mp hn
    have hc : e ∈ c := (sortB_perm c).mem_iff.mp he
    have gp := raw.pr e hc
    have sHG := s03.trans sG
    have bkG := bk.same sHG
    obtain ⟨v, ev, pr, an, rfl, h1, h2⟩ := rows.find raw.nd hc
    have dg : ∀ J, Same H J → DGet J p (.str e.1) (some (.ref pr)) := fun J sJ => by
      rw [← ev]
      exact rows_get (b := c) (Or.inl (sJ _ _ ep))
    walk_at "s"
    refine ⟨p, .ref pr, rfl, dg _ sHG, ?_⟩
    walk_at "s"
    refine l_ixT (tup_at (sHG _ _ h1)) at0 ?_
    walk_at "s"
    refine ⟨p, .ref pr, rfl, dg _ sHG, ?_⟩
    walk_at "s"
    refine l_ixT (tup_at (sHG _ _ h1)) at1 ?_
    walk_at "s"
    refine ⟨p, c, e, rfl, ⟨kvs, sHG _ _ ep, rows.same sHG⟩, raw, hc, fun o G4 no so eo => ?_⟩
    walk_at "s"
    refine l_tupL (SqL.of eo) fun o2 G5 no2 so2 eo2 => ?_
    walk_at "s"
    have s5 := (sHG.trans so).trans so2
    refine ⟨p, .ref pr, rfl, dg _ s5, ?_⟩
    walk_at "s"
    refine l_newL (xs := [.int e.2.1, .ref an, .ref o2, .ref pr, .bl true]) (by show 5 ≤ sizeLine; decide) fun D G6 nD sD eD => ?_
    walk_at "s"
    have s6 := s5.trans sD
    have bk6 := bk.same s6
    have ia6 := s6 _ _ ia
    refine l_ownM ia6 (lk _ (by decide) (by decide)) ?_
    walk_at "s"
    refine ⟨a, sortB c, .str e.1, rfl, bk6.rd, Or.inl ⟨_, rfl⟩, Or.inl ⟨e, he, rfl, ?_⟩⟩
    walk_at "s"
    refine l_ownM ia6 (lk _ (by decide) (by decide)) ?_
    walk_at "s"
    refine ⟨a, sortB c, .str e.1, rfl, bk6.rd, Or.inl ⟨_, rfl⟩, Or.inl ⟨e, he, rfl, fun an2 ea2 => ?_⟩⟩
    walk_at "s"
    refine l_ownM ia6 (lk _ (by decide) (by decide)) ?_
    walk_at "s"
    refine ⟨a, sortB c, .str e.1, rfl, bk6.rd, Or.inl ⟨_, rfl⟩, Or.inl ⟨e, he, rfl, fun o3 eo3 => ?_⟩⟩
    walk_at "s"
    refine ⟨a, dx, fs0, rfl, ia6, a, sortB c, .str e.1, rfl, bk6.rd, Or.inl ⟨_, rfl⟩, Or.inl ⟨e, he, rfl, fun v2 pv2 => ?_⟩⟩
    obtain ⟨pr2, an3, rfl, b1, b2⟩ := id pv2
    walk_at "s"
    refine ⟨a, dx, fs0, rfl, ia6, a, sortB c, .str e.1, rfl, bk6.rd, Or.inl ⟨_, rfl⟩, _, rfl, ?_⟩
    rw [hasB_in he]
    walk_at "s"
    refine l_newL (xs := [.int e.2.1, .ref an2, .ref o3, .ref pr2, .bl true]) (by show 5 ≤ sizeLine; decide) fun D2 G7 nD2 sD2 eD2 => ?_
    walk_at "s"
    have sm := sml_due gp
    have s7 := s6.trans sD2
    have d1 : Dp K G7 (.ref D2) (dueD e) := .lst (SqL.of eD2) (.cons (.int _) (.cons (.tup (tup_at (sD2 _ _ ea2)) (dp_strs _)) (.cons (.tup (tup_at (sD2 _ _ eo3)) (dp_strs _)) (.cons (dp_pair (pairV_bears.same _ _ _ sD2 pv2)) (.cons (.bl true) .nil)))))
    refine l_repr d1 sm.sh sm.nd (by have := sm.dp; omega) (by have := sm.ln; rw [sizeLine_eq]; omega) ?_
    walk_at "s"
    have d2 : Dp K G7 (.ref D) (dueD e) := .lst (SqL.of (sD2 _ _ eD)) (.cons (.int _) (.cons (.tup (tup_at (s7 _ _ h2)) (dp_strs _)) (.cons (.tup (tup_at ((sD.trans sD2) _ _ eo2)) (dp_strs _)) (.cons (dp_pair ⟨pr, an, rfl, s7 _ _ h1, s7 _ _ h2⟩) (.cons (.bl true) .nil)))))
    refine l_repr d2 sm.sh sm.nd (by have := sm.dp; omega) (by have := sm.ln; rw [sizeLine_eq]; omega) ?_
    generalize (dueD e).shown = txt
    walk_at "s"
    refine i_f (by rw [decide_eq_true rfl]; rfl) ?_
    walk_at "s"
    exact ⟨_, _, rfl, (((sG.trans so).trans so2).trans sD).trans sD2⟩
  · obtain ⟨z1, z2, rfl, sG⟩ := z
    walk_at "s"
    exact k G (s03.trans sG)
end
/-! ### odd values -/
section
variable {P : Program} {w : World} {K : PySem.W.Frag} {mg : Str → Option Value} {base : Heap}
section
variable {H0 : Hp} {σ : L2.St} {i j : Int} {s : Str} {b : Bool} {n : Nat}
abbrev PrO (K : PySem.W.Frag) (H0 : Hp) : Hp → V → Prop := OddD K H0
theorem monoO (G G' : Hp) (v : V) (s : Same G G') (h : PrO K H0 G v) : PrO K H0 G' v := OddD.nk (NK.of s) h
theorem flat_dp {v : V} {d : PyData} (e : flatD v = some d) (G : Hp) : Dp K G v d := by
  cases v with
  | non => cases e; exact Dp.non
  | bl b => cases e; exact Dp.bl b
  | int i => cases e; exact Dp.int i
  | str x => cases e; exact Dp.str x
  | _ => cases e
theorem flat_odd {v : V} {d : PyData} (e : flatD v = some d) (ok : okD d = true) (ns : (∃ s, v = .str s) ∨ ∀ G, NotStr K G v) (G : Hp) : PrO K H0 G v := Or.inl ⟨d, ok, fun J _ => flat_dp e J, ns.imp id fun z J _ => z J⟩
theorem od_str (ok : okD (.str s) = true) : ToP H0 (PrO K H0) (tC (.str s)) σ := toP_c fun G => flat_odd rfl ok (Or.inl ⟨s, rfl⟩) G
theorem od_int (ok : okD (.int i) = true) : ToP H0 (PrO K H0) (tC (.int i)) σ := toP_c fun G => flat_odd rfl ok (Or.inr fun _ => NotStr.int) G
theorem od_bl : ToP H0 (PrO K H0) (tC (.bl b)) σ := toP_c fun G => flat_odd rfl (by cases b <;> decide +kernel) (Or.inr fun _ => NotStr.bl) G
theorem od_non : ToP H0 (PrO K H0) (tC .non) σ := toP_c fun G => flat_odd rfl (by decide +kernel) (Or.inr fun _ => NotStr.non) G
theorem od_neg (ok : okD (.int (-i)) = true) : ToP H0 (PrO K H0) (tUn (rU fun i => .int (-i)) (tC (.int i))) σ := fun H _ Q k => ⟨i, rfl, k _ H (Same.refl H) (flat_odd rfl ok (Or.inr fun _ => NotStr.int) H)⟩
theorem od_pow (h : CPowW i j) (ok : okD (.int (i ^ j.toNat)) = true) : ToP H0 (PrO K H0) (tOp (rI CPowW fun i j => .int (i ^ j.toNat)) (tC (.int i)) (tC (.int j))) σ := fun H _ Q k => ⟨i, j, rfl, rfl, h, k _ H (Same.refl H) (flat_odd rfl ok (Or.inr fun _ => NotStr.int) H)⟩
theorem at_tup {p : Addr} {xs : List V} {d : PyData} {G0 G : Hp} (n : H0 p = none) (e : G p = some (.tup xs)) (ok : okD d = true) (k : ∀ J, NK H0 G J → J p = some (.tup xs) → Dp K J (.ref p) d) : PrO K H0 G (.ref p) :=
  Or.inl ⟨d, ok, (fun J sJ => k J sJ (sJ _ _ n e)), Or.inr fun J sJ => ⟨_, .base (.tup (sJ _ _ n e)), kit_ty (by decide +kernel)⟩⟩
theorem od_tup0 : ToP H0 (PrO K H0) (tTup tNil) σ := fun H s0 Q k => l_newT (xs := []) (by show 0 ≤ sizeLine; decide) fun p G' np s' e => k _ G' s' (at_tup (G0 := H) (none_same s0 np) e (d := .tuple []) (by decide +kernel) fun J _ eJ => .tup (tup_at eJ) .nil)
theorem od_tupS (ok : okD (.tuple [.str s]) = true) : ToP H0 (PrO K H0) (tTup (tCons (tC (.str s)) tNil)) σ := fun H s0 Q k => l_newT (xs := [.str s]) (by show 1 ≤ sizeLine; decide) fun p G' np s' e => k _ G' s' (at_tup (G0 := H) (none_same s0 np) e ok fun J _ eJ => .tup (tup_at eJ) (.cons (.str s) .nil))
theorem od_tupN : ToP H0 (PrO K H0) (tTup (tCons (tC .non) tNil)) σ := fun H s0 Q k => l_newT (xs := [.non]) (by show 1 ≤ sizeLine; decide) fun p G' np s' e => k _ G' s' (at_tup (G0 := H) (none_same s0 np) e (d := .tuple [.none]) (by decide +kernel) fun J _ eJ => .tup (tup_at eJ) (.cons .non .nil))
theorem od_tupT : ToP H0 (PrO K H0) (tTup (tCons (tTup tNil) tNil)) σ := fun H s0 Q k => s_tup (s_cons (s_tup (s_nil (l_newT (xs := []) (by show 0 ≤ sizeLine; decide) fun q G0 nq sq eq => s_nil (l_newT (xs := [.ref q]) (by show 1 ≤ sizeLine; decide) fun p G' np s' e =>
  k _ G' (sq.trans s') (at_tup (G0 := H) (none_same (s0.trans sq) np) e (d := .tuple [.tuple []]) (by decide +kernel) fun J sJ eJ => .tup (tup_at eJ) (.cons (.tup (tup_at (sJ _ _ (none_same s0 nq) (s' _ _ eq))) .nil) .nil)))))))
theorem at_lst {p : Addr} {xs : List V} {d : PyData} {G : Hp} (n : H0 p = none) (e : G p = some (.lst xs)) (ok : okD d = true) (k : ∀ J, J p = some (.lst xs) → Dp K J (.ref p) d) : PrO K H0 G (.ref p) :=
  Or.inl ⟨d, ok, (fun J sJ => k J (sJ _ _ n e)), Or.inr fun J sJ => ⟨_, .base (.lst (sJ _ _ n e)), kit_ty (by decide +kernel)⟩⟩
theorem od_lst0 : ToP H0 (PrO K H0) (tLst tNil) σ := fun H s0 Q k => l_newL (xs := []) (by show 0 ≤ sizeLine; decide) fun p G' np s' e => k _ G' s' (at_lst (none_same s0 np) e (d := .list []) (by decide +kernel) fun J eJ => .lst (SqL.of eJ) .nil)
theorem od_lstS (ok : okD (.list [.str s]) = true) : ToP H0 (PrO K H0) (tLst (tCons (tC (.str s)) tNil)) σ := fun H s0 Q k => l_newL (xs := [.str s]) (by show 1 ≤ sizeLine; decide) fun p G' np s' e => k _ G' s' (at_lst (none_same s0 np) e ok fun J eJ => .lst (SqL.of eJ) (.cons (.str s) .nil))
theorem od_dnew : ToP H0 (PrO K H0) tDNewK σ := fun H s0 Q k p np => k _ _ (same0 np) (Or.inr ⟨p, [], [], rfl, none_same s0 np, upd_same, .nil, by decide +kernel, by decide +kernel, by decide +kernel, by decide +kernel⟩)
theorem od_disp : ToP H0 (PrO K H0) (tDisp [(tC (.str "x"), tC (.int 1))]) σ := fun H s0 Q k p np =>
  ⟨upd_same, [(Sum.inr "x", .int 1)], rfl, (by show 1 ≤ 15; decide), k _ _ (Same.setNew (Same.upd0 np) np) (Or.inr ⟨p, [(Sum.inr "x", .int 1)], [(.str "x", .int 1)], rfl, none_same s0 np, upd_same, .cons ⟨rfl, rfl⟩ .nil, by decide +kernel, by decide +kernel, by decide +kernel, by decide +kernel⟩)⟩
end
end
local macro_rules | `(tactic| walk_at "od1") => `(tactic| first
  | (with_reducible exact od_bl) | (with_reducible exact od_non) | ((with_reducible refine od_int ?h); (case h => decide +kernel)) | ((with_reducible refine od_str ?h); (case h => decide +kernel))
  | ((with_reducible refine od_neg ?h); (case h => decide +kernel)) | ((with_reducible refine od_pow ?h ?k); (case h => decide +kernel); (case k => decide +kernel)) | (with_reducible exact od_dnew) | (with_reducible exact od_disp)
  | (with_reducible exact od_tup0) | (with_reducible exact od_tupN) | (with_reducible exact od_tupT) | (with_reducible exact od_lst0) | ((with_reducible refine od_tupS ?h); (case h => decide +kernel)) | ((with_reducible refine od_lstS ?h); (case h => decide +kernel)))
local macro_rules | `(tactic| walk_at "od") => `(tactic| first
  | (exact allA_nil)
  | ((refine' allA_cons monoO ?h1 ?h2); (case h1 => walk_at "od1"); (case h2 => walk_at "od")))
section
variable {P : Program} {w : World} {K : PySem.W.Frag} {mg : Str → Option Value} {base : Heap}
def sp__law_odd (K : PySem.W.Frag) : Sp := fun vs H Q _ => ∃ d : Addr, vs = [.ref d] ∧ DiceAt H d ∧ ∀ x H', Dc d H H' → OddD K H H' x → Q x H'
theorem ok__law_odd (T : Txt K mg) : FnG P w K mg base CX0 3 T.a__law_odd T.d__law_odd ["dice"] (sp__law_odd K) := by
  have G__law_one_of : FnG P w K mg base CX0 2 T.a__law_one_of T.d__law_one_of ["dice", "items"] (sp__law_one_of K) := ok__law_one_of T
  refine okG T.F__law_odd sc__law_odd (fun vs H Q E h => ?_) (fun cdv A fs s H vs Q E hr h => ?_)
  · obtain ⟨d, rfl, _⟩ := h
    rfl
  obtain ⟨d, rfl, hd, k⟩ := h
  have nd := sc__law_odd.nd
  refine ⟨_, ((pss_cons (ps_set (i := 1) nd rfl (Or.inl rfl) (pe_lst (pa_cons pe_non (pa_cons pe_bl (pa_cons pe_bl (pa_cons pe_int (pa_cons pe_int (pa_cons (pe_un un_neg pe_int) (pa_cons pe_int (pa_cons pe_int (pa_cons (pe_op op_powW pe_int pe_int) (pa_cons pe_str (pa_cons pe_str (pa_cons pe_str (pa_cons pe_str (pa_cons pe_str (pa_cons pe_str (pa_cons pe_str pa_nil))))))))))))))))))
  (pss_cons (ps_set (i := 1) nd rfl (Or.inl rfl) (pe_op op_cat (pv 1) (pe_lst (pa_cons pe_str (pa_cons pe_str (pa_cons pe_str (pa_cons pe_str (pa_cons pe_str (pa_cons (pe_tup pa_nil) (pa_cons (pe_lst pa_nil) (pa_cons pe_dnewK (pa_cons (pe_tup (pa_cons pe_str pa_nil)) (pa_cons (pe_lst (pa_cons pe_str pa_nil)) (pa_cons (pe_disp (pps_cons pe_str pe_int pps_nil) (by rfl) (by rfl) (fun z => by cases z) (by decide)) (pa_cons (pe_tup (pa_cons (pe_tup pa_nil) pa_nil)) (pa_cons (pe_tup (pa_cons pe_non pa_nil)) pa_nil))))))))))))))))
  (pss_cons (ps_set (i := 1) nd rfl (Or.inl rfl) (pe_op op_cat (pv 1) (pe_lst (pa_cons (pe_tup (pa_cons pe_str pa_nil)) (pa_cons (pe_tup (pa_cons pe_str pa_nil)) pa_nil)))))
  (pss_one (ps_ret (pe_callG G__law_one_of (hr.down (by decide)) rfl T.m__law_one_of T.F__law_one_of.kp T.b__law_one_of .nil pass0 (pa_cons (pv 0) (pa_cons (pv 1) pa_nil))))))))), ?_⟩
  iterate 3 walk_at "s1"
  refine use_all (n := 16) (Pr := PrO K H) (Same.refl H) ?_ fun xs1 G1 s1 len1 all1 => l_newL (by rw [len1, sizeLine_eq]; decide) fun p1 H1 n1 t1 e1 => ?_
  · walk_at "od"
  iterate 6 walk_at "s1"
  refine use_all (n := 13) (Pr := PrO K H) (s1.trans t1) ?_ fun xs2 G2 s2 len2 all2 => l_newL (by rw [len2, sizeLine_eq]; decide) fun p2 H2 n2 t2 e2 => ?_
  · walk_at "od"
  refine l_cat ((s2.trans t2) _ _ e1) e2 (by rw [len1, len2, sizeLine_eq]; decide) fun p3 H3 n3 t3 e3 => ?_
  iterate 6 walk_at "s1"
  refine use_all (n := 2) (Pr := PrO K H) (((s1.trans t1).trans (s2.trans t2)).trans t3) ?_ fun xs4 G4 s4 len4 all4 => l_newL (by rw [len4, sizeLine_eq]; decide) fun p4 H4 n4 t4 e4 => ?_
  · walk_at "od"
  refine l_cat ((s4.trans t4) _ _ e3) e4 (by rw [List.length_append, len1, len2, len4, sizeLine_eq]; decide) fun p5 H5 n5 t5 e5 => ?_
  walk_at "s"
  have s5 := ((((s1.trans t1).trans (s2.trans t2)).trans t3).trans (s4.trans t4)).trans t5
  have hd5 := hd.same s5
  have ne5 : p5 ≠ d := fun e => (hd.same (((((s1.trans t1).trans (s2.trans t2)).trans t3).trans (s4.trans t4)))).ne n5 e.symm
  refine ⟨d, p5, (xs1 ++ xs2) ++ xs4, rfl, hd5, SqL.of e5, ne5, ?_, ?_, fun x H' hx dc => k x H' ((Dc.refl hd).same s5 |>.trans dc) ?_⟩
  · rw [List.length_append, List.length_append, len1]
    omega
  · rw [List.length_append, List.length_append, len1, len2, len4]
    decide
  · have o5 : PrO K H H5 x := by
      rcases List.mem_append.mp hx with h | h
      · rcases List.mem_append.mp h with h | h
        · exact monoO _ _ _ (((t1.trans (s2.trans t2)).trans t3).trans ((s4.trans t4).trans t5)) (all1 x h)
        · exact monoO _ _ _ ((t2.trans t3).trans ((s4.trans t4).trans t5)) (all2 x h)
      · exact monoO _ _ _ (t4.trans t5) (all4 x h)
    refine o5.nk fun b o n e => dc.keep b o (fun z => ?_) e
    obtain ⟨_, _, _, q⟩ := hd
    rw [z, q] at n
    cases n
end
/-! ### all that a book tells -/
section
variable {w : World} {K : PySem.W.Frag} {mg : Str → Option Value} {base : Heap}
/-- a dict with these commands, in this order -/
theorem rows_of_list {H : Hp} {b : PB} : ∀ {c : PB} {kvs : List (Key × V)}, (b.map (·.1)).Nodup → (∀ x ∈ c, x ∈ b) → Paired (fun (s : Str) (kv : Key × V) => kv.1 = .inr s ∧ ∀ e ∈ b, e.1 = s → PairV H kv.2 e.2.1 e.2.2) (c.map (·.1)) kvs → RowsAt H kvs c
  | [], [], _, _, _ => .nil
  | [], _ :: _, _, _, h => nomatch h
  | _ :: _, [], _, _, h => nomatch h
  | x :: c, kv :: kvs, nd, sub, .cons a t => .cons ⟨a.1, a.2 x (sub x List.mem_cons_self) rfl⟩ (rows_of_list nd (fun y hy => sub y (List.mem_cons_of_mem _ hy)) t)
def PvB (b : PB) : Str → Hp → V → Prop := fun s G v => ∀ e ∈ b, e.1 = s → PairV G v e.2.1 e.2.2
theorem pvB_bears (b : PB) (s : Str) : Bears (PvB b s) := ⟨fun G G' v sm h e he hs => pairV_bears.same _ _ _ sm (h e he hs), fun G D o o' v hD no h e he hs => pairV_bears.set _ _ _ _ _ hD no (h e he hs)⟩
theorem ft (l : List V) : l.filter (fun _ => true) = l := List.filter_eq_self.mpr fun _ _ => rfl
def sp__law_told (T : Txt K mg) : Sp := fun vs H Q _ => ∃ (a : Addr) (b : PB), vs = [.ref a] ∧ BookAt T H a b ∧ ∀ p G, H p = none → Same H G → PairsAt G p b → Q (.ref p) G
theorem ok__law_told (T : Txt K mg) : FnG prog0 w K mg base CX0 7 T.a__law_told T.d__law_told ["book"] (sp__law_told T) := by
  have G_Book_commands : FnG prog0 w K mg base CX0 1 T.a_Book_commands T.d_Book_commands ["self"] (sp_commands T) := ok_Book_commands T
  have G_Book_takes : FnG prog0 w K mg base (L2.CX prog0 w) 5 T.a_Book_takes T.d_Book_takes ["self", "command"] (sp_takes T) := ok_Book_takes T
  have G_Book_answers : FnG prog0 w K mg base (L2.CX prog0 w) 5 T.a_Book_answers T.d_Book_answers ["self", "command"] (sp_answers T) := ok_Book_answers T
  refine okG T.F__law_told sc__law_told (fun vs H Q E h => ?_) (fun cdv A fs s H vs Q E hr h => ?_)
  · obtain ⟨a, b, rfl, _⟩ := h
    rfl
  obtain ⟨a, b, rfl, bk, k⟩ := h
  have nd := sc__law_told.nd
  have good := bk.rd.good
  have n6 := good.raw.n6
  obtain ⟨dx, fs0, ia, lk⟩ := bk.ins
  refine ⟨_, ((pss_one (ps_ret (pe_callTy (c_dictP rfl) (by rfl) T.z_dict (by decide +kernel) (pa_cons (pe_lc (own := [("one", 1)]) rfl nd (pi_tup (pe_propG (pv 0) T.o_Book.cl T.P_Book_commands G_Book_commands (hr.down (by decide)) T.b_Book_commands pass0)) (blkOk_by (own := [("one", 1)]) (N := ["book", "one"]) (sc := defScope s__law_told) (by decide +kernel)) (fun _ _ _ _ _ => pg_name (i := 1) nd rfl (Or.inl rfl)) (fun _ _ _ _ _ => pts_nil) (fun _ _ _ _ _ => by exact (pe_tup (pa_cons (pv 1) (pa_cons (pe_tup (pa_cons (pe_methG (pv 0) T.o_Book.cl T.M_Book_takes G_Book_takes (hr.down (by decide)) T.b_Book_takes passN (pa_cons (pv 1) pa_nil)) (pa_cons (pe_methG (pv 0) T.o_Book.cl T.M_Book_answers G_Book_answers (hr.down (by decide)) T.b_Book_answers passN (pa_cons (pv 1) pa_nil)) pa_nil))) pa_nil))))) pa_nil))))), ?_⟩
  walk_at "s"
  refine ⟨a, dx, fs0, rfl, ia, a, b, rfl, bk.rd, fun t G nt st et => ?_⟩
  have bk1 := bk.same st
  refine l_lcTp (tup_at et) (fun _ => true) (PairT (PvB b)) (pairT_bears (pvB_bears b)) (by rw [List.length_map, List.length_map]; omega) (fun x _ J _ R r => s_yes (r J (Same.refl J))) (fun x hx _ J sJ R r => ?_) (fun D J ws nD sJ en eD => ?_)
  · obtain ⟨s', hs', rfl⟩ := List.mem_map.mp hx
    obtain ⟨e, he, rfl⟩ := List.mem_map.mp hs'
    have bkJ := bk1.same sJ
    have iaJ := sJ _ _ (st _ _ ia)
    walk_at "s"
    refine l_ownM iaJ (lk _ (by decide) (by decide)) ?_
    walk_at "s"
    refine ⟨a, b, .str e.1, rfl, bkJ.rd, Or.inl ⟨_, rfl⟩, Or.inl ⟨e, he, rfl, ?_⟩⟩
    walk_at "s"
    refine l_ownM iaJ (lk _ (by decide) (by decide)) ?_
    walk_at "s"
    refine ⟨a, b, .str e.1, rfl, bkJ.rd, Or.inl ⟨_, rfl⟩, Or.inl ⟨e, he, rfl, fun an ean => ?_⟩⟩
    walk_at "s"
    refine l_newT (xs := [.int e.2.1, .ref an]) (by show 2 ≤ sizeLine; decide) fun pr G1 npr spr epr => ?_
    walk_at "s"
    refine l_newT (xs := [.str e.1, .ref pr]) (by show 2 ≤ sizeLine; decide) fun tt G2 ntt stt ett => ?_
    refine r (.ref tt) G2 (spr.trans stt) ⟨tt, e.1, .ref pr, rfl, rfl, ett, fun e' he' ee => ?_⟩
    rw [pb_one good.raw.nd he' he ee]
    exact ⟨pr, an, rfl, stt _ _ epr, (spr.trans stt) _ _ ean⟩
  · rw [ft] at en
    obtain ⟨ps, kvs, rfl, h2, h3⟩ := pairs_list K en
    walk_at "s"
    refine l_dictP (SqL.of eD) h2 fun p G2 np sp ep => ?_
    have rows : RowsAt J kvs b := rows_of_list good.raw.nd (fun _ z => z) h3
    have nk : (kvs.map (·.1)).Nodup := by
      rw [rows.keys]
      exact List.pairwise_map.mpr (List.Pairwise.imp (fun n e => n (Sum.inr.inj e)) good.raw.nd)
    rw [merge_nil nk] at ep
    have s3 := (st.trans sJ).trans sp
    exact k p G2 (none_same (st.trans sJ) np) s3 ⟨kvs, ep, rows.same sp⟩
end
/-! ### a second dict of commands -/
section
variable {w : World} {K : PySem.W.Frag} {mg : Str → Option Value} {base : Heap}
/-- commands put into a dict, one after another, perhaps anew -/
def setB (b : PB) (x : Str × Nat × List Str) : PB := if x.1 ∈ b.map (·.1) then b.map (fun y => if y.1 = x.1 then x else y) else b ++ [x]
theorem setB_fst (b : PB) (x : Str × Nat × List Str) : (setB b x).map (·.1) = if x.1 ∈ b.map (·.1) then b.map (·.1) else b.map (·.1) ++ [x.1] := by
  unfold setB
  split
  · rw [List.map_map]
    refine List.map_congr_left fun y _ => ?_
    show (if y.1 = x.1 then x else y).1 = y.1
    split
    · rename_i h
      exact h.symm
    · rfl
  · rw [List.map_append]
    rfl
theorem setB_mem {b : PB} {x y : Str × Nat × List Str} (h : y ∈ setB b x) : y ∈ b ∨ y = x := by
  unfold setB at h
  split at h
  · obtain ⟨z, hz, e⟩ := List.mem_map.mp h
    split at e
    · exact Or.inr e.symm
    · exact Or.inl (e ▸ hz)
  · rcases List.mem_append.mp h with h | h
    · exact Or.inl h
    · exact Or.inr (List.mem_singleton.mp h)
theorem setB_ne (b : PB) (x : Str × Nat × List Str) : setB b x ≠ [] := fun e => by
  have l := congrArg (List.map (·.1)) e
  rw [setB_fst] at l
  split at l
  · rename_i h
    rw [show b.map (·.1) = [] from l] at h
    cases h
  · exact absurd l (by simp)
theorem rows_set {H : Hp} {x : Str × Nat × List Str} {v : V} (hv : PairV H v x.2.1 x.2.2) : ∀ {kvs : List (Key × V)} {b : PB}, RowsAt H kvs b → RowsAt H (kvs.map fun kv => if kv.1 = Sum.inr x.1 then (kv.1, v) else kv) (b.map fun y => if y.1 = x.1 then x else y)
  | [], [], _ => .nil
  | [], _ :: _, h => nomatch h
  | _ :: _, [], h => nomatch h
  | kv :: kvs, y :: b, .cons a t => by
    rw [List.map_cons, List.map_cons]
    refine .cons ?_ (rows_set hv t)
    by_cases e : y.1 = x.1
    · rw [if_pos e, if_pos (by rw [a.1, e])]
      exact ⟨by rw [a.1, e], hv⟩
    · rw [if_neg e, if_neg (fun z => e (Sum.inr.inj (a.1.symm.trans z)))]
      exact a
theorem rows_setB {H : Hp} {x : Str × Nat × List Str} {v : V} {kvs : List (Key × V)} {b : PB} (hv : PairV H v x.2.1 x.2.2) (r : RowsAt H kvs b) : RowsAt H (putK kvs (.inr x.1) v) (setB b x) := by
  have iff : (.inr x.1 : Key) ∈ kvs.map (·.1) ↔ x.1 ∈ b.map (·.1) := by
    rw [r.keys]
    constructor
    · intro h
      obtain ⟨n, hn, e⟩ := List.mem_map.mp h
      rw [← Sum.inr.inj e]
      exact hn
    · exact fun h => List.mem_map_of_mem h
  unfold putK setB
  by_cases h : x.1 ∈ b.map (·.1)
  · rw [if_pos h, if_pos (mem_of_valV.mpr (iff.mpr h))]
    exact rows_set hv r
  · rw [if_neg h, if_neg fun z => h (iff.mp (mem_of_valV.mp z))]
    exact paired_app r (.cons ⟨rfl, hv⟩ .nil)
/-- a book's commands, perhaps none -/
structure PreB (b : PB) : Prop where
  nd : (b.map (·.1)).Nodup
  nm : ∀ x ∈ b, answerB1 x.1 = true
  pr : ∀ x ∈ b, GoodP x.2.1 x.2.2
  n6 : b.length ≤ 6
theorem PreB.raw {b : PB} (h : PreB b) (n : b ≠ []) : RawB b := ⟨h.nd, h.nm, h.pr, List.length_pos_iff.mpr n, h.n6⟩
theorem RawB.pre {b : PB} (h : RawB b) : PreB b := ⟨h.nd, h.nm, h.pr, h.n6⟩
theorem PreB.set {b : PB} {x : Str × Nat × List Str} (h : PreB b) (nm : answerB1 x.1 = true) (g : GoodP x.2.1 x.2.2) (l : x.1 ∈ b.map (·.1) ∨ b.length < 6) : PreB (setB b x) := by
  refine ⟨?_, fun y hy => ?_, fun y hy => ?_, ?_⟩
  · rw [setB_fst]
    split
    · exact h.nd
    · rename_i n
      refine List.nodup_append.mpr ⟨h.nd, List.pairwise_singleton _ _, fun a ha c hc => ?_⟩
      rw [List.mem_singleton.mp hc]
      exact fun e => n (e ▸ ha)
  · rcases setB_mem hy with q | rfl
    · exact h.nm y q
    · exact nm
  · rcases setB_mem hy with q | rfl
    · exact h.pr y q
    · exact g
  · have e := congrArg List.length (setB_fst b x)
    rw [List.length_map] at e
    rw [e]
    split
    · rw [List.length_map]
      exact h.n6
    · rename_i n
      rw [List.length_append, List.length_map]
      rcases l with l | l
      · exact absurd l n
      · show b.length + 1 ≤ 6
        omega
theorem eqD_none {b : PB} : eqD (rowsD b) [] = decide (b = []) := by
  cases b with
  | nil => rfl
  | cons x r =>
    have : ((rowsD (x :: r)).length == ([] : List (Key × PyData)).length) = false := rfl
    unfold eqD
    rw [this, Bool.false_and, decide_eq_false (by simp)]
theorem keys_str {H : Hp} {kvs : List (Key × V)} {b : PB} (r : RowsAt H kvs b) : (kvs.map fun p => kV p.1) = (b.map (·.1)).map V.str := by
  have e := congrArg (List.map kV) r.keys
  rw [List.map_map, List.map_map] at e
  exact e
end
section
variable {w : World} {K : PySem.W.Frag} {mg : Str → Option Value} {base : Heap}
theorem setB_len (b : PB) (x : Str × Nat × List Str) : (setB b x).length ≤ b.length + 1 := by
  have e := congrArg List.length (setB_fst b x)
  rw [List.length_map] at e
  rw [e]
  split
  · rw [List.length_map]
    omega
  · rw [List.length_append, List.length_map]
    exact Nat.le_refl _
/-- the dict that grows at D, the other one at m -/
def Grow (H : Hp) (d D m : Addr) (b2 c : PB) (G : Hp) : Prop := PairsAt G D c ∧ PreB c ∧ PairsAt G m b2 ∧ Dc d H G
theorem pairs_dc {d p : Addr} {H G : Hp} {b : PB} (hd : DiceAt H d) (k : Keep d H G) (h : PairsAt H p b) : PairsAt G p b := by
  obtain ⟨kvs, e, r⟩ := h
  have n : p ≠ d := fun z => by
    obtain ⟨_, _, _, q⟩ := hd
    rw [z, q] at e
    cases e
  exact ⟨kvs, k _ _ n e, rows_keep hd k r⟩
theorem pairs_same {p : Addr} {H G : Hp} {b : PB} (s : Same H G) (h : PairsAt H p b) : PairsAt G p b := by
  obtain ⟨kvs, e, r⟩ := h
  exact ⟨kvs, s _ _ e, r.same s⟩
theorem Grow.same {H G J : Hp} {d D m : Addr} {b2 c : PB} (s : Same G J) (g : Grow H d D m b2 c G) : Grow H d D m b2 c J := ⟨pairs_same s g.1, g.2.1, pairs_same s g.2.2.1, g.2.2.2.same s⟩
theorem Grow.dc {H G J : Hp} {d D m : Addr} {b2 c : PB} (k : Dc d G J) (g : Grow H d D m b2 c G) : Grow H d D m b2 c J := ⟨pairs_dc g.2.2.2.dice k.keep g.1, g.2.1, pairs_dc g.2.2.2.dice k.keep g.2.2.1, g.2.2.2.trans k⟩
theorem PairsAt.get {p : Addr} {H : Hp} {b : PB} (h : PairsAt H p b) (nd : (b.map (·.1)).Nodup) {e : Str × Nat × List Str} (he : e ∈ b) : ∃ v, DGet H p (.str e.1) (some v) ∧ PairV H v e.2.1 e.2.2 := by
  obtain ⟨kvs, ep, r⟩ := h
  obtain ⟨v, ev, pv⟩ := r.find nd he
  exact ⟨v, by rw [← ev]; exact rows_get (b := b) (Or.inl ep), pv⟩
/-- one more command put in -/
theorem Grow.put {H G : Hp} {d D m : Addr} {b2 c : PB} {e : Str × Nat × List Str} {v : V} (nH : H D = none) (nm : D ≠ m) (g : Grow H d D m b2 c G) (pv : PairV G v e.2.1 e.2.2) (a : answerB1 e.1 = true) (gp : GoodP e.2.1 e.2.2) (l : e.1 ∈ c.map (·.1) ∨ c.length < 6) :
    ∃ H', DPut G D (.str e.1) v H' ∧ Grow H d D m b2 (setB c e) H' := by
  obtain ⟨⟨kvs, eD, r⟩, pre, ⟨kvs2, em, r2⟩, dc⟩ := g
  have lr := r.len
  have l6 := pre.n6
  refine ⟨_, DPut.k (k := .inr e.1) eD (by rw [sizeLine_eq]; omega), ⟨_, upd_same, (rows_setB pv r).set eD fun _ z => by cases z⟩, pre.set a gp l, ⟨kvs2, by rw [upd_ne (Ne.symm nm)]; exact em, r2.set eD fun _ z => by cases z⟩, fun b o nb z => ?_, ?_⟩
  · rw [upd_ne (ne_of_none z nH)]
    exact dc.keep b o nb z
  · obtain ⟨x1, x2, x3, z⟩ := dc.dice
    have nd : d ≠ D := fun q => by
      rw [q, eD] at z
      cases z
    exact ⟨x1, x2, x3, by rw [upd_ne nd]; exact z⟩
def sp__law_second : Sp := fun vs H Q _ => ∃ (d p : Addr) (b : PB), vs = [.ref d, .ref p] ∧ DiceAt H d ∧ PairsAt H p b ∧ RawB b ∧ ∀ q G c, RawB c → PairsAt G q c → Dc d H G → Q (.ref q) G
theorem ok__law_second (T : Txt K mg) : FnG prog0 w K mg base CX0 6 T.a__law_second T.d__law_second ["dice", "pairs"] sp__law_second := by
  have G__law_roll : FnG prog0 w K mg base CX0 1 T.a__law_roll T.d__law_roll ["dice", "total"] sp__law_roll := ok__law_roll T
  have G__law_one_of : FnG prog0 w K mg base CX0 2 T.a__law_one_of T.d__law_one_of ["dice", "items"] (sp__law_one_of K) := ok__law_one_of T
  have G__law_mixed : FnG prog0 w K mg base CX0 2 T.a__law_mixed T.d__law_mixed ["dice", "items"] (sp__law_mixed K) := ok__law_mixed T
  have G__law_pairs : FnG prog0 w K mg base CX0 5 T.a__law_pairs T.d__law_pairs ["dice", "most", "answers"] sp__law_pairs := ok__law_pairs T
  have HP := @PassesOwn.never
  refine okG T.F__law_second sc__law_second (fun vs H Q E h => ?_) (fun cdv A fs s H vs Q E hr h => ?_)
  · obtain ⟨d, p, b, rfl, _⟩ := h
    rfl
  obtain ⟨d, p, b, rfl, hd, pb, raw, k⟩ := h
  have nd := sc__law_second.nd
  have n6 := raw.n6
  refine ⟨_, ((pss_cons (ps_par (i := 2) (j := 3) rfl nd rfl rfl (by decide) rfl rfl (pa_cons (pe_callG G__law_pairs (hr.down (by decide)) rfl T.m__law_pairs T.F__law_pairs.kp T.b__law_pairs .nil pass0 (pa_cons (pv 0) (pa_cons pe_int (pa_cons pe_int pa_nil)))) (pa_cons pe_dnewK pa_nil)) (by rfl))
  (pss_cons (ps_for HP rfl (pi_list (pe_slice sl_list (pe_callG G__law_mixed (hr.down (by decide)) rfl T.m__law_mixed T.F__law_mixed.kp T.b__law_mixed .nil pass0 (pa_cons (pv 0) (pa_cons (pe_callTy (c_listD rfl) (by rfl) T.z_list (by decide +kernel) (pa_cons (pv 1) pa_nil)) pa_nil))) po_none (po_some (pe_callG G__law_roll (hr.down (by decide)) rfl T.m__law_roll T.F__law_roll.kp T.b__law_roll .nil pass0 (pa_cons (pv 0) (pa_cons (pe_op op_add (pe_callB c_lenD (by rfl) T.z_len (by decide +kernel) (pa_cons (pv 1) pa_nil)) pe_int) pa_nil)))))) (pg_name (i := 4) nd rfl (Or.inl rfl)) (pss_one (ps_asg (pe_dget hr.hu (pv 1) (pv 4) (fun _ _ => rfl)) (pg_sub (pv 3) (pv 4) (set_dict hr.hu)))))
  (Evl.pss_cut (ps_if (PW.pt (pw_and (pt_cmpR (op_neDD hr.u70) (pv 3) pe_dnewK (nomark _)) (pw_and1 (pt_cmpR op_eq (pe_callG G__law_roll (hr.down (by decide)) rfl T.m__law_roll T.F__law_roll.kp T.b__law_roll .nil pass0 (pa_cons (pv 0) (pa_cons pe_int pa_nil))) pe_int (nomark _))))) (pss_cons (ps_set (i := 4) nd rfl (Or.inl rfl) (pe_callG G__law_one_of (hr.down (by decide)) rfl T.m__law_one_of T.F__law_one_of.kp T.b__law_one_of .nil pass0 (pa_cons (pv 0) (pa_cons (pe_callB (call_sortedK rfl) (by rfl) T.z_sorted (by decide +kernel) (pa_cons (pv 3) pa_nil)) pa_nil))))
  (pss_one (ps_asg (pe_dget hr.hu (pv 2) (pe_callG G__law_one_of (hr.down (by decide)) rfl T.m__law_one_of T.F__law_one_of.kp T.b__law_one_of .nil pass0 (pa_cons (pv 0) (pa_cons (pe_callTy (c_listD rfl) (by rfl) T.z_list (by decide +kernel) (pa_cons (pv 2) pa_nil)) pa_nil))) (fun _ _ => rfl)) (pg_sub (pv 3) (pv 4) (set_dict hr.hu))))) pss_nil)
  (pss_cons (ps_for HP rfl (pi_list (pe_slice sl_list (pe_callG G__law_mixed (hr.down (by decide)) rfl T.m__law_mixed T.F__law_mixed.kp T.b__law_mixed .nil pass0 (pa_cons (pv 0) (pa_cons (pe_callTy (c_listD rfl) (by rfl) T.z_list (by decide +kernel) (pa_cons (pv 2) pa_nil)) pa_nil))) po_none (po_some (pe_callG G__law_roll (hr.down (by decide)) rfl T.m__law_roll T.F__law_roll.kp T.b__law_roll .nil pass0 (pa_cons (pv 0) (pa_cons pe_int pa_nil)))))) (pg_name (i := 4) nd rfl (Or.inl rfl)) (pss_one (ps_if (PW.pt (pw_and (pt_cmpR op_lt (pe_callB c_lenD (by rfl) T.z_len (by decide +kernel) (pa_cons (pv 3) pa_nil)) pe_int (nomark _)) (pw_and1 (pt_cmpR (op_dNin hr.hu) (pv 4) (pv 3) (by rfl))))) (pss_one (ps_asg (pe_dget hr.hu (pv 2) (pv 4) (fun _ _ => rfl)) (pg_sub (pv 3) (pv 4) (set_dict hr.hu)))) pss_nil)))
  (pss_one (ps_ret (pe_ifExp (pt_cmpR (op_neDD hr.u70) (pv 3) pe_dnewK (nomark _)) (pv 3) (pv 2))))))))), ?_⟩
  walk_at "s"
  refine ⟨d, rfl, hd, fun m G0 b2 g2 nm0 pm dc0 => ?_⟩
  walk_at "s"
  refine l_dnew fun D G1 nD sD eD => ?_
  walk_at "s"
  have nHD : H D = none := by
    cases e0 : H D with
    | none => rfl
    | some u =>
      by_cases z : D = d
      · obtain ⟨_, _, _, q⟩ := dc0.dice
        rw [z, q] at nD
        cases nD
      · rw [dc0.keep _ _ z e0] at nD
        cases nD
  have nDm : D ≠ m := fun z => by
    obtain ⟨kv, e, _⟩ := pm
    rw [z, e] at nD
    cases nD
  have gr1 : Grow H d D m b2 [] G1 := ⟨⟨[], eD, .nil⟩, ⟨List.nodup_nil, (fun x h => by cases h), (fun x h => by cases h), by decide⟩, pairs_same sD pm, dc0.same sD⟩
  have pb1 := pairs_dc hd gr1.2.2.2.keep pb
  obtain ⟨kvs1, ep1, rp1⟩ := id pb1
  refine l_listK (Or.inl ep1) fun q G2 nq sq eq => ?_
  walk_at "s"
  rw [keys_str rp1] at eq
  have gr2 := gr1.same sq
  have nqd : q ≠ d := fun z => (gr1.2.2.2.dice.ne nq) z.symm
  refine ⟨d, q, _, rfl, gr2.2.2.2.dice, SqL.of eq, nqd, by rw [List.length_map, List.length_map]; omega, fun u G3 ys pys nu eu dc3 => ?_⟩
  obtain ⟨yl, rfl, pyl⟩ := strs_perm pys
  walk_at "s"
  have gr3 := gr2.dc dc3
  have ep3 := dc3.keep p _ (fun z => by
    obtain ⟨_, _, _, e⟩ := gr2.2.2.2.dice
    have h := sq _ _ ep1
    rw [z, e] at h
    cases h) (sq _ _ ep1)
  refine l_lenD ep3 ?_
  walk_at "s"
  refine ⟨d, _, rfl, gr3.2.2.2.dice, by omega, by have := rp1.len; omega, fun r G4 r0 r1 dc4 => ?_⟩
  walk_at "s"
  have gr4 := gr3.dc dc4
  have nud : u ≠ d := fun z => (gr2.2.2.2.dice.ne nu) z.symm
  have eu4 := dc4.keep _ _ nud eu
  have yl6 : yl.length = b.length := by rw [pyl.length_eq, List.length_map]
  have lk1 : kvs1.length = b.length := rp1.len
  refine l_slL (SqL.of eu4) fun t G5 nt st et => ?_
  rw [cut_to (by omega) (by rw [List.length_map]; omega), ← List.map_take] at et
  have gr5 := gr4.same st
  have pb5 := pairs_dc hd gr5.2.2.2.keep pb
  have inB : ∀ y ∈ yl, ∃ e ∈ b, e.1 = y := fun y hy => by
    obtain ⟨e, he, h⟩ := List.mem_map.mp (pyl.mem_iff.mp hy)
    exact ⟨e, he, h⟩
  have ntH : H t = none := by
    cases e0 : H t with
    | none => rfl
    | some o =>
      by_cases z : t = d
      · obtain ⟨_, _, _, q⟩ := gr4.2.2.2.dice
        rw [z, q] at nt
        cases nt
      · rw [gr4.2.2.2.keep _ _ z e0] at nt
        cases nt
  have ntD : t ≠ D := fun z => by
    obtain ⟨kv, e, _⟩ := gr4.1
    rw [← z, nt] at e
    cases e
  have ntd : t ≠ d := fun z => by
    obtain ⟨_, _, _, q⟩ := gr4.2.2.2.dice
    rw [z, q] at nt
    cases nt
  refine l_forL (SqL.of et) (fun i τ G => ∃ (z : Option V) (c : PB), τ = [some (.ref d), some (.ref p), some (.ref m), some (.ref D), z] ∧ Grow H d D m b2 c G ∧ c.length ≤ i ∧ G t = some (.lst ((yl.take r.toNat).map V.str))) ⟨_, [], rfl, gr5, Nat.le_refl _, et⟩ (fun i τ G _ z => by
    obtain ⟨_, _, _, _, _, e⟩ := z
    exact SqL.of e) (fun i x τ G hi z => ?_) (fun τ G z => ?_)
  · obtain ⟨z, c, rfl, gr, lc, etG⟩ := z
    have li : i < ((yl.take r.toNat).map V.str).length := (List.getElem?_eq_some_iff.mp hi).1
    rw [List.length_map, List.length_take] at li
    rw [List.getElem?_map] at hi
    obtain ⟨y, hy, rfl⟩ := Option.map_eq_some_iff.mp hi
    obtain ⟨e, he, rfl⟩ := inB y (List.mem_of_mem_take (List.mem_of_getElem? hy))
    obtain ⟨v, dg, pv⟩ := (pairs_dc hd gr.2.2.2.keep pb).get raw.nd he
    walk_at "s"
    refine ⟨p, v, rfl, dg, ?_⟩
    walk_at "s"
    obtain ⟨G', dp, gr'⟩ := gr.put nHD nDm pv (raw.nm e he) (raw.pr e he) (Or.inr (by omega))
    refine ⟨D, G', rfl, dp, ?_⟩
    refine ⟨_, setB c e, rfl, gr', by have := setB_len c e; omega, ?_⟩
    rcases dp with ⟨kv, k', e1, e2, _, rfl⟩ | ⟨kv, k', b', e1, _⟩
    · rw [upd_ne ntD]
      exact etG
    · obtain ⟨kv2, e2, _⟩ := gr.1
      rw [e2] at e1
      cases e1
  · obtain ⟨z, c, rfl, gr, lc, etG⟩ := z
    walk_at "s"
    refine s_cut (fun τ J => ∃ (z : Option V) (c : PB), τ = [some (.ref d), some (.ref p), some (.ref m), some (.ref D), z] ∧ Grow H d D m b2 c J) ?_ (fun τ J h => ?_)
    · walk_at "s"
      refine l_dnew fun E0 G6 nE sE eE => ?_
      have gr6 := gr.same sE
      obtain ⟨kvsF, eF, rF⟩ := id gr6.1
      refine ⟨D, E0, kvsF, [], rowsD c, [], rfl, rfl, Or.inl eF, Or.inl eE, rows_holds rF gr6.2.1.pr, .nil, ?_⟩
      rw [eqD_none]
      walk_at "s"
      refine i_b (fun nz => ?_) (fun nz => ?_)
      · have nz : c ≠ [] := by simpa using nz
        walk_at "s"
        refine ⟨d, _, rfl, gr6.2.2.2.dice, by decide, by decide, fun r2 G7 r20 r21 dc7 => ?_⟩
        have gr7 := gr6.dc dc7
        walk_at "s"
        refine i_dec (fun c0 => ?_) (fun c0 => ?_)
        · walk_at "s"
          obtain ⟨kvs7, e7, rr7⟩ := id gr7.1
          refine l_sortD (Or.inl e7) rr7.keys (by rw [List.length_map]; have := gr7.2.1.n6; omega) fun o G8 no so eo => ?_
          have gr8 := gr7.same so
          have lc7 : (sortS (c.map (·.1))).length = c.length := by rw [(sortS_perm _).length_eq, List.length_map]
          have nod : o ≠ d := fun z => (gr7.2.2.2.dice.ne no) z.symm
          walk_at "s"
          refine ⟨d, o, _, rfl, gr8.2.2.2.dice, SqL.of eo, nod, by rw [List.length_map, lc7]; exact List.length_pos_iff.mpr nz, by rw [List.length_map, lc7]; have := gr8.2.1.n6; omega, fun x1 G9 hx1 dc9 => ?_⟩
          obtain ⟨y1, hy1, rfl⟩ := List.mem_map.mp hx1
          have hy1 : y1 ∈ c.map (·.1) := (sortS_perm _).mem_iff.mp hy1
          obtain ⟨e1, he1, rfl⟩ := List.mem_map.mp hy1
          have gr9 := gr8.dc dc9
          walk_at "s"
          obtain ⟨kvs9, em9, rm9⟩ := id gr9.2.2.1
          refine l_listK (Or.inl em9) fun o2 G10 no2 so2 eo2 => ?_
          rw [keys_str rm9] at eo2
          have gr10 := gr9.same so2
          have nod2 : o2 ≠ d := fun z => (gr9.2.2.2.dice.ne no2) z.symm
          walk_at "s"
          refine ⟨d, o2, _, rfl, gr10.2.2.2.dice, SqL.of eo2, nod2, by rw [List.length_map, List.length_map]; exact g2.raw.n1, by rw [List.length_map, List.length_map]; have := g2.raw.n6; omega, fun x2 G11 hx2 dc11 => ?_⟩
          obtain ⟨y2, hy2, rfl⟩ := List.mem_map.mp hx2
          obtain ⟨e2, he2, rfl⟩ := List.mem_map.mp hy2
          have gr11 := gr10.dc dc11
          obtain ⟨v, dg, pv⟩ := gr11.2.2.1.get g2.raw.nd he2
          refine ⟨m, v, rfl, dg, ?_⟩
          walk_at "s"
          obtain ⟨G', dp, gr'⟩ := gr11.put (e := (e1.1, e2.2)) nHD nDm pv (gr6.2.1.nm e1 he1) (g2.raw.pr e2 he2) (Or.inl hy1)
          refine ⟨D, G', rfl, dp, ?_⟩
          exact ⟨_, _, rfl, gr'⟩
        · walk_at "s"
          exact ⟨_, _, rfl, gr7⟩
      · walk_at "s"
        exact ⟨_, _, rfl, gr6⟩
    · obtain ⟨z, c, rfl, gr⟩ := h
      walk_at "s"
      obtain ⟨kvs9, em9, rm9⟩ := id gr.2.2.1
      refine l_listK (Or.inl em9) fun o2 G10 no2 so2 eo2 => ?_
      rw [keys_str rm9] at eo2
      have gr10 := gr.same so2
      have nod2 : o2 ≠ d := fun z => (gr.2.2.2.dice.ne no2) z.symm
      have m6 := g2.raw.n6
      walk_at "s"
      refine ⟨d, o2, _, rfl, gr10.2.2.2.dice, SqL.of eo2, nod2, by rw [List.length_map, List.length_map]; omega, fun u2 G11 ys2 pys2 nu2 eu2 dc11 => ?_⟩
      obtain ⟨yl2, rfl, pyl2⟩ := strs_perm pys2
      have nud2 : u2 ≠ d := fun z => (gr10.2.2.2.dice.ne nu2) z.symm
      walk_at "s"
      refine ⟨d, _, rfl, dc11.dice, by decide, by decide, fun r3 G12 r30 r31 dc12 => ?_⟩
      walk_at "s"
      have gr12 := (gr10.dc dc11).dc dc12
      have eu12 := dc12.keep _ _ nud2 eu2
      have inM : ∀ y ∈ yl2, ∃ e ∈ b2, e.1 = y := fun y hy => by
        obtain ⟨e, he, h⟩ := List.mem_map.mp (pyl2.mem_iff.mp hy)
        exact ⟨e, he, h⟩
      refine l_slL (SqL.of eu12) fun t2 G13 nt2 st2 et2 => ?_
      obtain ⟨cl, hcl, hsub⟩ : ∃ cl : List Str, cutV (yl2.map V.str) none (some r3) = cl.map V.str ∧ ∀ y ∈ cl, y ∈ yl2 := by
        refine ⟨(yl2.drop (HT.sIx (yl2.map V.str).length 0 none)).take (HT.sIx (yl2.map V.str).length (yl2.map V.str).length (some r3) - HT.sIx (yl2.map V.str).length 0 none), ?_, fun y hy => List.mem_of_mem_drop (List.mem_of_mem_take hy)⟩
        unfold cutV
        rw [← List.map_drop, ← List.map_take]
      rw [hcl] at et2
      have gr13 := gr12.same st2
      have nt2D : t2 ≠ D := fun z => by
        obtain ⟨kv, e, _⟩ := gr12.1
        rw [← z, nt2] at e
        cases e
      refine l_forL (SqL.of et2) (fun i τ G => ∃ (z : Option V) (c : PB), τ = [some (.ref d), some (.ref p), some (.ref m), some (.ref D), z] ∧ Grow H d D m b2 c G ∧ G t2 = some (.lst (cl.map V.str))) ⟨_, c, rfl, gr13, et2⟩ (fun i τ G _ z => by
        obtain ⟨_, _, _, _, e⟩ := z
        exact SqL.of e) (fun i x τ G hi z => ?_) (fun τ G z => ?_)
      · obtain ⟨z, c, rfl, gr, etG⟩ := z
        rw [List.getElem?_map] at hi
        obtain ⟨y, hy, rfl⟩ := Option.map_eq_some_iff.mp hi
        obtain ⟨e, he, rfl⟩ := inM y (hsub y (List.mem_of_getElem? hy))
        obtain ⟨kvsF, eF, rF⟩ := id gr.1
        walk_at "s"
        refine l_lenD eF ?_
        rw [rF.len]
        walk_at "s"
        refine i_dec (fun small => ?_) (fun small => ?_)
        · walk_at "s"
          refine l_dNin (rows_get (b := c) (Or.inl eF)) ?_
          rw [rF.has gr.2.1.nd]
          walk_at "s"
          refine i_b (fun _ => ?_) (fun _ => ?_)
          · walk_at "s"
            obtain ⟨v, dg, pv⟩ := gr.2.2.1.get g2.raw.nd he
            refine ⟨m, v, rfl, dg, ?_⟩
            walk_at "s"
            obtain ⟨G', dp, gr'⟩ := gr.put nHD nDm pv (g2.raw.nm e he) (g2.raw.pr e he) (Or.inr (by omega))
            refine ⟨D, G', rfl, dp, ?_⟩
            refine ⟨_, setB c e, rfl, gr', ?_⟩
            rcases dp with ⟨kv, k', e1, e2, _, rfl⟩ | ⟨kv, k', b', e1, _⟩
            · rw [upd_ne nt2D]
              exact etG
            · rw [eF] at e1
              cases e1
          · walk_at "s"
            exact ⟨_, c, rfl, gr, etG⟩
        · walk_at "s"
          exact ⟨_, c, rfl, gr, etG⟩
      · obtain ⟨z, c, rfl, gr, etG⟩ := z
        walk_at "s"
        refine l_dnew fun E0 G6 nE sE eE => ?_
        have gr6 := gr.same sE
        obtain ⟨kvsF, eF, rF⟩ := id gr6.1
        refine ⟨D, E0, kvsF, [], rowsD c, [], rfl, rfl, Or.inl eF, Or.inl eE, rows_holds rF gr6.2.1.pr, .nil, ?_⟩
        rw [eqD_none]
        walk_at "s"
        refine i_b (fun nz => ?_) (fun nz => ?_)
        · have nz : c ≠ [] := by simpa using nz
          walk_at "s"
          exact k D G6 c (gr6.2.1.raw nz) gr6.1 gr6.2.2.2
        · walk_at "s"
          exact k m G6 b2 g2.raw gr6.2.2.1 gr6.2.2.2
end
/-! ### two books: what they share -/
theorem sub_len {l m : List Str} (nd : l.Nodup) (s : ∀ x ∈ l, x ∈ m) : l.length ≤ m.length := by
  by_cases h : l.length ≤ m.length
  · exact h
  · have p := perm_sub nd s (by omega)
    have := p.length_eq
    omega
theorem nodup_perm {l m : List Str} (nl : l.Nodup) (nm : m.Nodup) (e : ∀ x, x ∈ l ↔ x ∈ m) : l.Perm m := perm_sub nl (fun x h => (e x).mp h) (sub_len nm fun x h => (e x).mpr h)
def shN (b c : PB) : List Str := (b.map (·.1)).filter fun n => decide (n ∈ c.map (·.1))
theorem sh_mem {b c : PB} {n : Str} : n ∈ shN b c ↔ n ∈ b.map (·.1) ∧ n ∈ c.map (·.1) := by
  unfold shN
  rw [List.mem_filter, decide_eq_true_eq]
theorem sh_len {b c : PB} (nb : (b.map (·.1)).Nodup) (nc : (c.map (·.1)).Nodup) : (shN b c).length = (shN c b).length := by
  have a1 : (shN b c).length ≤ (shN c b).length := sub_len (nb.sublist (List.filter_sublist)) fun x h => sh_mem.mpr (sh_mem.mp h).symm
  have a2 : (shN c b).length ≤ (shN b c).length := sub_len (nc.sublist (List.filter_sublist)) fun x h => sh_mem.mpr (sh_mem.mp h).symm
  omega
theorem jn_len0 : ∀ {c b : PB}, (c.map (·.1)).Nodup → (jn b c).length = b.length + ((c.map (·.1)).filter fun n => !decide (n ∈ b.map (·.1))).length
  | [], b, _ => rfl
  | x :: c, b, nd => by
    obtain ⟨n1, n2⟩ := List.nodup_cons.mp (show (x.1 :: c.map (·.1)).Nodup from nd)
    show (jn (addB b x) c).length = _
    rw [jn_len0 (c := c) (b := addB b x) n2, List.map_cons]
    unfold addB
    by_cases h : x.1 ∈ b.map (·.1)
    · rw [if_pos h, List.filter_cons_of_neg (by rw [decide_eq_true h]; exact Bool.false_ne_true)]
    · rw [if_neg h, List.filter_cons_of_pos (by rw [decide_eq_false h]; rfl), List.length_append, List.length_cons, List.length_cons, List.length_nil]
      have e : ((c.map (·.1)).filter fun n => !decide (n ∈ (b ++ [x]).map (·.1))) = (c.map (·.1)).filter fun n => !decide (n ∈ b.map (·.1)) := by
        refine List.filter_congr fun n hn => ?_
        have : n ≠ x.1 := fun z => n1 (z ▸ hn)
        have e2 : n ∈ (b ++ [x]).map (·.1) ↔ n ∈ b.map (·.1) := by
          rw [List.map_append, List.mem_append]
          constructor
          · rintro (h | h)
            · exact h
            · exact absurd (List.mem_singleton.mp h) this
          · exact Or.inl
        rw [decide_eq_decide.mpr e2]
      rw [e]
      omega
theorem filt_len {α : Type} (p : α → Bool) : ∀ l : List α, (l.filter p).length + (l.filter fun x => !p x).length = l.length
  | [] => rfl
  | x :: l => by
    have t := filt_len p l
    cases h : p x with
    | true => rw [List.filter_cons_of_pos h, List.filter_cons_of_neg (by rw [h]; exact Bool.false_ne_true), List.length_cons, List.length_cons]; omega
    | false => rw [List.filter_cons_of_neg (by rw [h]; exact Bool.false_ne_true), List.filter_cons_of_pos (by rw [h]; rfl), List.length_cons, List.length_cons]; omega
theorem jn_len {b c : PB} (nb : (b.map (·.1)).Nodup) (nc : (c.map (·.1)).Nodup) : (jn b c).length + (shN b c).length = b.length + c.length := by
  have h1 := jn_len0 (b := b) nc
  have h2 := filt_len (fun n => decide (n ∈ b.map (·.1))) (c.map (·.1))
  have h3 := sh_len nb nc
  have h4 : (shN c b).length = ((c.map (·.1)).filter fun n => decide (n ∈ b.map (·.1))).length := rfl
  rw [List.length_map] at h2
  omega
theorem add_name {b : PB} {x : Str × Nat × List Str} {n : Str} : n ∈ (addB b x).map (·.1) ↔ n ∈ b.map (·.1) ∨ n = x.1 := by
  unfold addB
  by_cases h : x.1 ∈ b.map (·.1)
  · rw [if_pos h]
    exact ⟨Or.inl, fun z => z.elim id fun e => e ▸ h⟩
  · rw [if_neg h, List.map_append, List.mem_append]
    exact ⟨fun z => z.imp id fun m => List.mem_singleton.mp m, fun z => z.imp id fun e => List.mem_singleton.mpr e⟩
theorem jn_name : ∀ {c b : PB} {n : Str}, n ∈ (jn b c).map (·.1) ↔ n ∈ b.map (·.1) ∨ n ∈ c.map (·.1)
  | [], b, n => ⟨Or.inl, fun z => z.elim id fun m => nomatch m⟩
  | x :: c, b, n => by
    show n ∈ (jn (addB b x) c).map (·.1) ↔ _
    rw [jn_name (c := c) (b := addB b x), add_name, List.map_cons, List.mem_cons, or_assoc]
theorem jn_right {b c : PB} {x : Str × Nat × List Str} (nb : (b.map (·.1)).Nodup) (nc : (c.map (·.1)).Nodup) (no : ∀ e ∈ c, e.1 ∈ b.map (·.1) → e ∈ b) (hx : x ∈ c) : x ∈ jn b c := by
  obtain ⟨y, hy, e⟩ := List.mem_map.mp (jn_name.mpr (Or.inr (List.mem_map_of_mem hx)) : x.1 ∈ (jn b c).map (·.1))
  rcases jn_mem hy with h | h
  · have hb : x.1 ∈ b.map (·.1) := by
      rw [← e]
      exact List.mem_map_of_mem h
    rw [pb_one nb (no x hx hb) h e.symm]
    exact hy
  · rw [pb_one nc hx h e.symm]
    exact hy
theorem clash_perm {b c b' c' : PB} (pb : b'.Perm b) (pc : c'.Perm c) : Clash b' c' ↔ Clash b c := by
  have f : ∀ {b c b' c' : PB}, b'.Perm b → c'.Perm c → Clash b' c' → Clash b c := fun pb pc ⟨e, he, h1, h2⟩ => ⟨e, pb.mem_iff.mp he, (pc.map (·.1)).mem_iff.mp h1, fun z => h2 (pc.mem_iff.mpr z)⟩
  exact ⟨f pb pc, f pb.symm pc.symm⟩
theorem join_sorted {b c : PB} (nb : (b.map (·.1)).Nodup) (nc : (c.map (·.1)).Nodup) (no : ¬ Clash b c) : sortB (jn (sortB b) (sortB c)) = sortB (jn b c) := by
  have pb := sortB_perm b
  have pc := sortB_perm c
  have nb' := (pb.map (·.1)).nodup_iff.mpr nb
  have nc' := (pc.map (·.1)).nodup_iff.mpr nc
  have cl := no_clash nc no
  refine pb_ext (a := jn b c) (jn_nodup nb) (fun x h => ?_) (fun x h => (sortB_perm _).mem_iff.mp h) ?_
  · have h := (sortB_perm _).mem_iff.mp h
    rcases jn_mem h with h | h
    · exact jn_left (pb.mem_iff.mp h)
    · exact jn_right nb nc cl (pc.mem_iff.mp h)
  · rw [sortB_fst, sortB_fst]
    refine sortS_congr (nodup_perm (jn_nodup nb') (jn_nodup nb) fun n => ?_)
    rw [jn_name, jn_name, (pb.map (·.1)).mem_iff, (pc.map (·.1)).mem_iff]
theorem join_len {b c : PB} (nb : (b.map (·.1)).Nodup) (nc : (c.map (·.1)).Nodup) : (jn (sortB b) (sortB c)).length = (jn b c).length := by
  have pb := sortB_perm b
  have pc := sortB_perm c
  have nb' := (pb.map (·.1)).nodup_iff.mpr nb
  have p := nodup_perm (jn_nodup (c := sortB c) nb') (jn_nodup (c := c) nb) fun n => by rw [jn_name, jn_name, (pb.map (·.1)).mem_iff, (pc.map (·.1)).mem_iff]
  have := p.length_eq
  rw [List.length_map, List.length_map] at this
  exact this
theorem clash_list {b c : PB} (nb : (b.map (·.1)).Nodup) : (!decide ((shN b c).filter (clB b c) = [])) = decide (Clash b c) := by
  rw [← cl_any nb, List.any_map]
  by_cases h : (shN b c).filter (clB b c) = []
  · rw [decide_eq_true h]
    symm
    show _ = false
    rw [List.any_eq_false]
    intro n hn z
    have z : clB b c n = true := z
    have hs : n ∈ c.map (·.1) := by
      obtain ⟨e, he, h1, h2, h3⟩ := of_decide_eq_true (show decide _ = true from z)
      exact h2
    have m : n ∈ (shN b c).filter (clB b c) := List.mem_filter.mpr ⟨sh_mem.mpr ⟨hn, hs⟩, z⟩
    rw [h] at m
    cases m
  · rw [decide_eq_false h]
    symm
    show _ = true
    rw [List.any_eq_true]
    obtain ⟨n, hn⟩ := List.exists_mem_of_ne_nil _ h
    obtain ⟨h1, h2⟩ := List.mem_filter.mp hn
    exact ⟨n, (sh_mem.mp h1).1, h2⟩
theorem within_eq {b c : PB} (nb : (b.map (·.1)).Nodup) (nc : (c.map (·.1)).Nodup) : decide (∀ e ∈ sortB b, e ∈ sortB c) = (decide (((shN b c).length : Int) = (b.length : Int)) && !decide (Clash b c)) := by
  have pb := sortB_perm b
  have pc := sortB_perm c
  by_cases h : ∀ e ∈ sortB b, e ∈ sortB c
  · have h' : ∀ e ∈ b, e ∈ c := fun e he => pc.mem_iff.mp (h e (pb.mem_iff.mpr he))
    have e1 : shN b c = b.map (·.1) := by
      unfold shN
      refine List.filter_eq_self.mpr fun n hn => decide_eq_true ?_
      obtain ⟨e, he, rfl⟩ := List.mem_map.mp hn
      exact List.mem_map_of_mem (h' e he)
    rw [decide_eq_true h, e1, List.length_map, decide_eq_true rfl, decide_eq_false fun ⟨e, he, _, n⟩ => n (h' e he)]
    rfl
  · rw [decide_eq_false h]
    symm
    rw [Bool.and_eq_false_iff]
    by_cases hc : Clash b c
    · exact Or.inr (by rw [decide_eq_true hc]; rfl)
    · refine Or.inl (decide_eq_false fun z => h fun e he => ?_)
      have all : shN b c = b.map (·.1) := by
        have l : (shN b c).length = (b.map (·.1)).length := by
          rw [List.length_map]
          omega
        exact List.filter_sublist.eq_of_length l
      have hb := pb.mem_iff.mp he
      have hn : e.1 ∈ shN b c := by
        rw [all]
        exact List.mem_map_of_mem hb
      by_cases hin : e ∈ c
      · exact pc.mem_iff.mpr hin
      · exact absurd ⟨e, hb, (sh_mem.mp hn).2, hin⟩ hc
/-! ### items as data -/
def itD (e : Str × Nat × List Str) : PyData := .tuple [.str e.1, pairD e.2]
def itemsD (b : PB) : PyData := .list (b.map itD)
theorem eqv_it {x y : Str × Nat × List Str} : PyData.eqv (itD x) (itD y) = decide (x = y) := by
  have h : PyData.eqv (itD x) (itD y) = (decide (x.1 = y.1) && (decide (x.2 = y.2) && true)) := by
    rw [← eqv_pair]
    unfold itD
    simp only [PyData.eqv, PyData.eqvAll]
    by_cases e : x.1 = y.1 <;> simp [e]
  rw [h, Bool.and_true]
  obtain ⟨a, p⟩ := x
  obtain ⟨b, q⟩ := y
  by_cases h1 : a = b <;> by_cases h2 : p = q <;> simp [h1, h2]
theorem eqv_items : ∀ {b c : PB}, PyData.eqvAll (b.map itD) (c.map itD) = decide (b = c)
  | [], [] => rfl
  | [], _ :: _ => rfl
  | _ :: _, [] => rfl
  | x :: b, y :: c => by
    rw [List.map_cons, List.map_cons]
    show (PyData.eqv (itD x) (itD y) && PyData.eqvAll (b.map itD) (c.map itD)) = _
    rw [eqv_it, eqv_items]
    by_cases h1 : x = y <;> by_cases h2 : b = c <;> simp [h1, h2]
theorem items_eqv {b c : PB} : PyData.eqv (itemsD b) (itemsD c) = decide (b = c) := by
  unfold itemsD
  simp only [PyData.eqv]
  exact eqv_items
theorem items_shaped0 {b : PB} (g : ∀ x ∈ b, answerB1 x.1 = true ∧ GoodP x.2.1 x.2.2) : PyData.canLayAll0 (b.map itD) = true ∧ PyData.depthAll (b.map itD) ≤ 3 := by
  induction b with
  | nil => exact ⟨rfl, by show 0 ≤ 3; omega⟩
  | cons x b ih =>
    obtain ⟨i1, i2⟩ := ih fun y hy => g y (List.mem_cons_of_mem _ hy)
    obtain ⟨gn, gp⟩ := g x List.mem_cons_self
    obtain ⟨h1, h2⟩ := str_shaped (l := x.2.2) fun s hs => answer_name (gp.2.2.2.2 s hs)
    obtain ⟨h3, h4⟩ := str_shaped (l := [x.1]) fun s hs => by rw [List.mem_singleton.mp hs]; exact answer_name gn
    have h5 : PyData.canLay0 (.str x.1) = true := by
      have e : PyData.canLayAll0 ([x.1].map PyData.str) = (PyData.canLay0 (.str x.1) && true) := rfl
      rw [e, Bool.and_true] at h3
      exact h3
    have e : PyData.canLay0 (itD x) = true := by
      unfold itD pairD
      simp only [PyData.canLay0, PyData.canLayAll0, h1, Bool.and_true]
      have : PyData.canLay0 (.str x.1) = true := h5
      simp only [PyData.canLay0] at this
      exact this
    have e2 : PyData.depth (itD x) ≤ 3 := by
      unfold itD pairD
      simp only [PyData.depthAll, PyData.depth, h2]
      omega
    refine ⟨?_, ?_⟩
    · rw [List.map_cons]
      show (PyData.canLay0 (itD x) && PyData.canLayAll0 (b.map itD)) = true
      rw [e, i1]
      rfl
    · rw [List.map_cons]
      simp only [PyData.depthAll]
      omega
theorem items_shaped {b : PB} (r : RawB b) : SeqAt.shaped (itemsD b) = true := by
  obtain ⟨h1, h2⟩ := items_shaped0 fun x hx => ⟨r.nm x hx, r.pr x hx⟩
  unfold SeqAt.shaped itemsD
  simp only [PyData.canLay0, PyData.depth, h1]
  simp
  omega
theorem strs_shaped {l : List Str} (h : ∀ s ∈ l, nameB s = true) : SeqAt.shaped (.list (l.map PyData.str)) = true := by
  obtain ⟨h1, h2⟩ := str_shaped h
  unfold SeqAt.shaped
  simp only [PyData.canLay0, PyData.depth, h1, h2]
  rfl
section
variable {K : PySem.W.Frag} {H G : Hp}
theorem rows_ents : ∀ {kvs : List (Key × V)} {b : PB}, RowsAt H kvs b → ∃ ks : List (Str × V), kvs = ks.map entS ∧ Paired (fun (e : Str × V) (x : Str × Nat × List Str) => e.1 = x.1 ∧ PairV H e.2 x.2.1 x.2.2) ks b
  | [], [], _ => ⟨[], rfl, .nil⟩
  | [], _ :: _, h => nomatch h
  | _ :: _, [], h => nomatch h
  | (k, v) :: kvs, x :: b, .cons a t => by
    obtain ⟨ks, e, r⟩ := rows_ents t
    have ek : k = .inr x.1 := a.1
    exact ⟨(x.1, v) :: ks, by rw [e, ek]; rfl, .cons ⟨rfl, a.2⟩ r⟩
theorem ents_dp : ∀ {ps : List (Addr × Str × V)} {b : PB}, Paired (fun (e : Str × V) (x : Str × Nat × List Str) => e.1 = x.1 ∧ PairV G e.2 x.2.1 x.2.2) (ps.map (·.2)) b → (∀ z ∈ ps, G z.1 = some (.tup [.str z.2.1, z.2.2])) → DpAll K G (ps.map fun z => V.ref z.1) (b.map itD)
  | [], [], _, _ => .nil
  | [], _ :: _, h, _ => nomatch h
  | _ :: _, [], h, _ => nomatch h
  | z :: ps, x :: b, .cons a t, h => .cons (.tup (tup_at (h z List.mem_cons_self)) (.cons (by rw [a.1]; exact .str _) (.cons (dp_pair a.2) .nil))) (ents_dp t fun y hy => h y (List.mem_cons_of_mem _ hy))
theorem ents_names {F : Str × V → Str × Nat × List Str → Prop} (hF : ∀ e x, F e x → e.1 = x.1) : ∀ {l : List (Str × V)} {b : PB}, Paired F l b → l.map (·.1) = b.map (·.1)
  | [], [], _ => rfl
  | [], _ :: _, h => nomatch h
  | _ :: _, [], h => nomatch h
  | e :: l, x :: b, .cons a t => by rw [List.map_cons, List.map_cons, hF e x a, ents_names hF t]
theorem ents_sorted {ps : List (Addr × Str × V)} {b : PB} {ks : List (Str × V)} (nb : (b.map (·.1)).Nodup) (r : Paired (fun (e : Str × V) (x : Str × Nat × List Str) => e.1 = x.1 ∧ PairV G e.2 x.2.1 x.2.2) ks b) (p : (ps.map (·.2)).Perm ks) (o : (ps.map (·.2)).Pairwise (fun e f => leS e.1 f.1)) :
    Paired (fun (e : Str × V) (x : Str × Nat × List Str) => e.1 = x.1 ∧ PairV G e.2 x.2.1 x.2.2) (ps.map (·.2)) (sortB b) := by
  obtain ⟨b', h1, h2⟩ := paired_perm p r
  have e : b' = sortB b := by
    refine pb_ext (a := b) nb (fun x h => h2.mem_iff.mp h) (fun x h => (sortB_perm b).mem_iff.mp h) ?_
    rw [sortB_fst]
    refine le_unique ?_ (sortS_le _) ((h2.map (·.1)).trans (sortS_perm _).symm)
    rw [← ents_names (fun e x h => h.1) h1]
    exact List.pairwise_map.mpr o
  rw [← e]
  exact h1
end
section
variable {w : World} {K : PySem.W.Frag} {mg : Str → Option Value} {base : Heap}
def sp_both (T : Txt K mg) : Sp := fun vs H Q _ => ∃ (d a1 a2 p q : Addr) (b c : PB), vs = [.ref d, .ref a1, .ref a2, .ref p, .ref q] ∧ BookAt T H a1 (sortB b) ∧ BookAt T H a2 (sortB c) ∧ PairsAt H p b ∧ PairsAt H q c ∧ RawB b ∧ RawB c ∧ LamX.Tabs T.tabs H ∧
  ∀ G, LamX.ExtN H G → LamX.Tabs T.tabs G → Q (.bl true) G
theorem ok__law_both_right (T : Txt K mg) (TB : LamX.TabB base mg T.co__law_both_right T.tb__law_both_right) : FnG prog0 w K mg base CX0 20 T.a__law_both_right T.d__law_both_right ["dice", "one", "two", "pairs", "more"] (sp_both T) := by
  have G_Book___or__ : FnG prog0 w K mg base (L2.CX prog0 w) 11 T.a_Book___or__ T.d_Book___or__ ["self", "other"] (sp_or T) := ok_Book___or__ T
  have G_Book___eq__ : FnG prog0 w K mg base CX0 3 T.a_Book___eq__ T.d_Book___eq__ ["self", "other"] (sp_eq T) := ok_Book___eq__ T
  have G_Book_is_within : FnG prog0 w K mg base (L2.CX prog0 w) 5 T.a_Book_is_within T.d_Book_is_within ["self", "other"] (sp_is_within T) := ok_Book_is_within T
  have G__law_is_right : FnG prog0 w K mg base CX0 7 T.a__law_is_right T.d__law_is_right ["book", "pairs"] (sp_is_right T) := ok__law_is_right T
  have hin := T.hin__law_both_right
  have hun := T.hun__law_both_right
  refine okGL T.F__law_both_right T.l__law_both_right sc__law_both_right (fun vs H Q E h => ?_) (fun A fs s H vs Q E hr h => ?_)
  · obtain ⟨d, a1, a2, p, q, b, c, rfl, _⟩ := h
    rfl
  obtain ⟨d, a1, a2, p, q, b, c, rfl, bk1, bk2, pk1, pk2, raw1, raw2, tabs, k⟩ := h
  have nd := sc__law_both_right.nd
  refine ⟨_, ((pss_cons (ps_lock (ps_setLc (i := 5) (own := [("word", 10)]) rfl nd rfl rfl (sw_true rfl rfl rfl (by decide +kernel)) (pi_keys (pv 3)) (blkOk_by (own := [("word", 10)]) (N := ["dice", "one", "two", "pairs", "more", "shared", "clash", "both", "same", "within", "word"]) (sc := defScope s__law_both_right) (by decide +kernel)) (fun _ _ _ _ _ => pg_name (i := 10) nd rfl (Or.inl rfl)) (fun _ _ _ _ _ => by exact (pts_one (pt_cmpR (op_dIn hr.hu) (pv 10) (pv 4) (by rfl)))) (fun _ _ _ _ _ => by exact (pv 10))))
  (pss_cons (ps_set (i := 6) nd rfl (Or.inl rfl) (pe_cmpR (op_neD hr.r.units) (pe_lc (own := [("word", 10)]) rfl nd (pi_list (pv 5)) (blkOk_by (own := [("word", 10)]) (N := ["dice", "one", "two", "pairs", "more", "shared", "clash", "both", "same", "within", "word"]) (sc := defScope s__law_both_right) (by decide +kernel)) (fun _ _ _ _ _ => pg_name (i := 10) nd rfl (Or.inl rfl)) (fun _ _ _ _ _ => by exact (pts_one (pt_cmpR (show OpR _ _ (rNeD K) from (op_neD hr.r.units)) (pe_dget hr.hu (pv 3) (pv 10) (fun _ _ => rfl)) (pe_dget hr.hu (pv 4) (pv 10) (fun _ _ => rfl)) (nomark _)))) (fun _ _ _ _ _ => by exact (pv 10))) (pe_lst pa_nil) (nomark _)))
  (Evl.pss_cut (ps_set (i := 7) nd rfl (Or.inl rfl) (pe_lamF (k := 12) (Ng := ["call", "e"]) rfl T.m__law_met T.F__law_met T.b__law_met sc__law_met rfl (Or.inl rfl) (fun cdv => gives_metK T rfl rfl cdv _ _) TB rfl hin hun (hr.down (by decide)) (LamX.lamS_by (by show LamX.lamSB (defScope s__law_both_right) _ = true; decide +kernel)) rfl (fun _ _ _ _ _ => rfl) (fun A outer s H E f c hr => by exact (pe_op (op_ownBin T.o_Book.sf T.D_Book___or__ G_Book___or__ (hr.down (by decide)) T.b_Book___or__ (pxE lam_takes (fun _ _ _ _ h => h))) (pv 1) (pv 2)))))
  (Evl.pss_cut (ps_if (PW.pt (pw_or (pt_val (pv 6)) (pw_or1 (pt_cmpR op_gt (pe_op op_sub (pe_op op_add (pe_callB c_lenD (by rfl) T.z_len (by decide +kernel) (pa_cons (pv 3) pa_nil)) (pe_callB c_lenD (by rfl) T.z_len (by decide +kernel) (pa_cons (pv 4) pa_nil))) (pe_callB c_len (by rfl) T.z_len (by decide +kernel) (pa_cons (pv 5) pa_nil))) pe_int (nomark _))))) (pss_one (ps_if (pt_cmpR op_ne (pv 7) pe_str (nomark _)) (pss_one (ps_ret pe_bl)) pss_nil)) (pss_one (ps_if (pt_not (pt_val (pe_callG G__law_is_right (hr.down (by decide)) rfl T.m__law_is_right T.F__law_is_right.kp T.b__law_is_right .nil pass0 (pa_cons (pv 7) (pa_cons (pe_callTy (c_dictP rfl) (by rfl) T.z_dict (by decide +kernel) (pa_cons (pe_op op_cat (LiI.pe_listItems rfl (pv 3) (by rfl) T.z_list (by decide +kernel)) (LiI.pe_listItems rfl (pv 4) (by rfl) T.z_list (by decide +kernel))) pa_nil)) pa_nil))))) (pss_one (ps_ret pe_bl)) pss_nil)))
  (pss_cons (ps_set (i := 8) nd rfl (Or.inl rfl) (pe_cmpR (op_eqD hr.r.units) (pe_callB (call_sortedIt rfl) (by rfl) T.z_sorted (by decide +kernel) (pa_cons (pe_bm0 PySem.F.plainAttrs_dict PySem.F.slot_dict_items PySem.F.type_dict_items mt_itemsK (pv 3)) pa_nil)) (pe_callB (call_sortedIt rfl) (by rfl) T.z_sorted (by decide +kernel) (pa_cons (pe_bm0 PySem.F.plainAttrs_dict PySem.F.slot_dict_items PySem.F.type_dict_items mt_itemsK (pv 4)) pa_nil)) (nomark _)))
  (pss_cons (ps_if (pt_cmpR op_ne (pe_callB (call_reprD hr) (by rfl) T.z_repr (by decide +kernel) (pa_cons (pe_lst (pa_cons (pe_cmpR (op_ownEq T.D_Book___eq__ G_Book___eq__ (hr.down (by decide)) T.b_Book___eq__ pass0) (pv 1) (pv 2) (nomark _)) (pa_cons (pe_cmpR (op_ownEq T.D_Book___eq__ G_Book___eq__ (hr.down (by decide)) T.b_Book___eq__ pass0) (pv 2) (pv 1) (nomark _)) (pa_cons (pe_cmpR (op_ownNe T.N_Book T.D_Book___eq__ G_Book___eq__ (hr.down (by decide)) T.b_Book___eq__ pass0) (pv 1) (pv 2) (nomark _)) pa_nil)))) pa_nil)) (pe_callB (call_reprD hr) (by rfl) T.z_repr (by decide +kernel) (pa_cons (pe_lst (pa_cons (pv 8) (pa_cons (pv 8) (pa_cons (pe_not (pv 8)) pa_nil)))) pa_nil)) (nomark _)) (pss_one (ps_ret pe_bl)) pss_nil)
  (Evl.pss_cut (ps_set (i := 9) nd rfl (Or.inl rfl) (pe_and (pe_cmpR op_eq (pe_callB c_len (by rfl) T.z_len (by decide +kernel) (pa_cons (pv 5) pa_nil)) (pe_callB c_lenD (by rfl) T.z_len (by decide +kernel) (pa_cons (pv 3) pa_nil)) (nomark _)) (pe_one (pe_not (pv 6)))))
  (pss_cons (ps_if (pt_cmpR op_ne (pe_callB (call_reprD hr) (by rfl) T.z_repr (by decide +kernel) (pa_cons (pe_lst (pa_cons (pe_methG (pv 1) T.o_Book.cl T.M_Book_is_within G_Book_is_within (hr.down (by decide)) T.b_Book_is_within passN (pa_cons (pv 2) pa_nil)) (pa_cons (pe_methG (pv 1) T.o_Book.cl T.M_Book_is_within G_Book_is_within (hr.down (by decide)) T.b_Book_is_within passN (pa_cons (pv 1) pa_nil)) pa_nil))) pa_nil)) (pe_callB (call_reprD hr) (by rfl) T.z_repr (by decide +kernel) (pa_cons (pe_lst (pa_cons (pv 9) (pa_cons pe_bl pa_nil))) pa_nil)) (nomark _)) (pss_one (ps_ret pe_bl)) pss_nil)
  (pss_one (ps_ret (pe_and (pe_callG G__law_is_right (hr.down (by decide)) rfl T.m__law_is_right T.F__law_is_right.kp T.b__law_is_right .nil pass0 (pa_cons (pv 1) (pa_cons (pv 3) pa_nil))) (pe_one (pe_callG G__law_is_right (hr.down (by decide)) rfl T.m__law_is_right T.F__law_is_right.kp T.b__law_is_right .nil pass0 (pa_cons (pv 2) (pa_cons (pv 4) pa_nil)))))))))))))))), ?_⟩
  obtain ⟨kvs1, ep1, rows1⟩ := id pk1
  obtain ⟨kvs2, ep2, rows2⟩ := id pk2
  have l1 := rows1.len
  have l2 := rows2.len
  have n1 := raw1.n6
  have n2 := raw2.n6
  have fst1 : (kvs1.map fun p => kV p.1) = (b.map (·.1)).map V.str := by
    have e := congrArg (List.map kV) rows1.keys
    rw [List.map_map, List.map_map] at e
    exact e
  have get1 : ∀ {J : Hp} {e : Str × Nat × List Str}, LamX.ExtN H J → e ∈ b → ∃ v, DGet J p (.str e.1) (some v) ∧ PairV J v e.2.1 e.2.2 := fun s he => (pairs_ext s pk1).get raw1.nd he
  have get2 : ∀ {J : Hp} {e : Str × Nat × List Str}, LamX.ExtN H J → e ∈ c → ∃ v, DGet J q (.str e.1) (some v) ∧ PairV J v e.2.1 e.2.2 := fun s he => (pairs_ext s pk2).get raw2.nd he
  walk_at "s"
  refine s_setLcK ?_
  refine l_lcK (fun od R r => s_var rfl r) ep1 (fun x => match x with | .str n => decide (n ∈ c.map (·.1)) | _ => false) id (by omega) (fun od k hk G s R r => ?_) (fun od k hk _ G s R r => s_var rfl (r G (Same.refl G))) (fun S G nS sS eS => ?_)
  · obtain ⟨x, hx, rfl⟩ := key_of rows1 hk
    walk_at "s"
    refine l_dIn (rows_get (b := c) (rd_same s (rd_lock ep1 (Or.inl ep2)))) ?_
    rw [rows2.has raw2.nd]
    walk_at "s"
    exact r G (Same.refl G)
  have eS' : G S = some (.lst ((shN b c).map V.str)) := by
    rw [eS, fst1, List.map_id, List.filter_map]
    rfl
  walk_at "s"
  have lsh : (shN b c).length ≤ 6 := by
    have : (shN b c).length ≤ (b.map (·.1)).length := List.length_filter_le _ _
    rw [List.length_map] at this
    omega
  refine l_lcL (SqL.of eS') (fun x => match x with | .str n => clB b c n | _ => false) id (by rw [List.length_map]; omega) (fun x hx J sJ R r => ?_) (fun x hx _ J sJ R r => s_var rfl (r J (Same.refl J))) (fun D J nD sJ eD => ?_)
  · obtain ⟨n, hn, rfl⟩ := List.mem_map.mp hx
    obtain ⟨hn1, hn2⟩ := sh_mem.mp hn
    obtain ⟨e, he, rfl⟩ := List.mem_map.mp hn1
    obtain ⟨f, hf, ef⟩ := List.mem_map.mp hn2
    have r := r J (Same.refl J)
    replace r : R (clB b c e.1) J := r
    rw [cl_of raw1.nd he, decide_eq_true hn2, Bool.true_and] at r
    have sJ' : LamX.ExtN H J := ext_of (sS.trans sJ)
    obtain ⟨v1, g1, p1⟩ := get1 sJ' he
    obtain ⟨v2, g2, p2⟩ := get2 sJ' hf
    rw [ef] at g2
    walk_at "s"
    refine ⟨p, v1, rfl, g1, ?_⟩
    walk_at "s"
    refine ⟨q, v2, rfl, g2, ?_⟩
    refine l_neD (dp_pair p1) (dp_pair p2) (pair_shaped (raw1.pr e he)) (pair_shaped (raw2.pr f hf)) ?_
    rw [eqv_pair]
    walk_at "s"
    have e2 : decide (e.2 = f.2) = decide (e ∈ c) := by
      by_cases q : e.2 = f.2
      · have : e = f := Prod.ext ef.symm q
        rw [decide_eq_true q, decide_eq_true (this ▸ hf)]
      · rw [decide_eq_false q, decide_eq_false fun z => q (by rw [pb_one raw2.nd hf z ef])]
    show R (!decide (e.2 = f.2)) J
    rw [e2]
    exact r
  have eD' : J D = some (.lst (((shN b c).filter (clB b c)).map V.str)) := by
    rw [eD, List.map_id, List.filter_map]
    rfl
  walk_at "s"
  refine l_newL (by show 0 ≤ sizeLine; decide) fun z J2 nz sz ez => ?_
  have nmF : ∀ s ∈ (shN b c).filter (clB b c), nameB s = true := fun s hs => by
    obtain ⟨e, he, rfl⟩ := List.mem_map.mp (sh_mem.mp (List.mem_filter.mp hs).1).1
    exact answer_name (raw1.nm e he)
  refine l_neD (d := .list (((shN b c).filter (clB b c)).map PyData.str)) (e := .list []) (.lst (SqL.of (sz _ _ eD')) (dp_strs _)) (.lst (SqL.of ez) .nil) (strs_shaped nmF) (by decide +kernel) ?_
  have ecl : (!PyData.eqv (.list (((shN b c).filter (clB b c)).map PyData.str)) (.list [])) = decide (Clash b c) := by
    rw [← clash_list raw1.nd, ← eqv_strs]
    simp only [PyData.eqv]
    rfl
  rw [ecl]
  walk_at "s"
  have eS2 := sz _ _ (sJ _ _ eS')
  have e0 : LamX.ExtN H J2 := ext_of ((sS.trans sJ).trans sz)
  have lenSh := jn_len raw1.nd raw2.nd
  refine s_cut (fun τ G => ∃ v : V, τ = [some (.ref d), some (.ref a1), some (.ref a2), some (.ref p), some (.ref q), some (.ref S), some (.bl (decide (Clash b c))), some v, none, none, none] ∧ LamX.ExtN H G ∧ LamX.Tabs T.tabs G ∧ G S = some (.lst ((shN b c).map V.str)) ∧
    ((v = .str "operation" ∧ (Clash b c ∨ 6 < (jn b c).length)) ∨ (¬ Clash b c ∧ (jn b c).length ≤ 6 ∧ ∃ a', v = .ref a' ∧ BookAt T G a' (sortB (jn b c))))) ?_ (fun τ G m => ?_)
  · refine s_asg ?_
    refine s_lam (tabs.ext ((sS.trans sJ).trans sz)) fun H1 e1 t1 => l_met ?_
    have e01 := e0.trans e1
    have bk11 := bk1.ext e01
    have bk21 := bk2.ext e01
    obtain ⟨dx1, fs1, i1, lk1⟩ := bk11.ins
    obtain ⟨dx2, fs2, i2, lk2⟩ := bk21.ins
    have eS3 := e1 _ _ eS2 (fun _ z => by cases z)
    walk_at "s"
    refine ⟨a2, dx2, fs2, rfl, i2, a1, dx1, fs1, rfl, i1, a1, sortB b, .ref a2, rfl, bk11, Or.inl ⟨a2, sortB c, rfl, bk21.rd, fun bad G2 s2 => Or.inr (Or.inl ⟨rfl, fun G3 s3 => ?_⟩), fun ok lk6 a' G2 na' s2 bk' => ?_⟩⟩
    · walk_at "s"
      rw [clash_perm (sortB_perm b) (sortB_perm c), join_len raw1.nd raw2.nd] at bad
      exact ⟨_, rfl, e01.trans (ext_of (s2.trans s3)), (t1.ext s2).ext s3, (s2.trans s3) _ _ eS3, Or.inl ⟨rfl, bad⟩⟩
    · walk_at "s"
      rw [clash_perm (sortB_perm b) (sortB_perm c)] at ok
      rw [join_len raw1.nd raw2.nd] at lk6
      rw [join_sorted raw1.nd raw2.nd ok] at bk'
      exact ⟨_, rfl, e01.trans (ext_of s2), t1.ext s2, s2 _ _ eS3, Or.inr ⟨ok, lk6, a', rfl, bk'⟩⟩
  obtain ⟨v, rfl, eG, tG, eSG, kind⟩ := m
  have ep1G := eG _ _ ep1 (fun _ z => by cases z)
  have ep2G := eG _ _ ep2 (fun _ z => by cases z)
  refine s_cut (fun τ J => ∃ v : V, τ = [some (.ref d), some (.ref a1), some (.ref a2), some (.ref p), some (.ref q), some (.ref S), some (.bl (decide (Clash b c))), some v, none, none, none] ∧ LamX.ExtN H J ∧ LamX.Tabs T.tabs J ∧ J S = some (.lst ((shN b c).map V.str))) ?_ (fun τ J m => ?_)
  · walk_at "s"
    rcases kind with ⟨rfl, bad⟩ | ⟨ok, lk6, a', rfl, bk'⟩
    · refine i_dec (fun cl => ?_) (fun cl => ?_)
      · refine i_t rfl ?_
        walk_at "s"
        refine i_f (by rw [decide_eq_true rfl]; rfl) ?_
        exact ⟨_, rfl, eG, tG, eSG⟩
      · walk_at "s"
        refine l_lenD ep1G ?_
        walk_at "s"
        refine l_lenD ep2G ?_
        walk_at "s"
        have big := bad.resolve_left cl
        refine i_t (decide_eq_true (by rw [List.length_map]; omega)) ?_
        walk_at "s"
        refine i_f (by rw [decide_eq_true rfl]; rfl) ?_
        exact ⟨_, rfl, eG, tG, eSG⟩
    · refine i_f (decide_eq_false ok) ?_
      walk_at "s"
      refine l_lenD ep1G ?_
      walk_at "s"
      refine l_lenD ep2G ?_
      walk_at "s"
      refine i_f (decide_eq_false (by rw [List.length_map]; omega)) ?_
      walk_at "s"
      refine s_listI ?_
      walk_at "s"
      refine l_listI (K := K) ep1G fun m1 ts1 J1 nm1 s1 em1 pr1 => ?_
      walk_at "s"
      refine s_listI ?_
      walk_at "s"
      refine l_listI (K := K) (s1 _ _ ep2G) fun m2 ts2 J2 nm2 s2 em2 pr2 => ?_
      have lt1 := Paired.length pr1
      have lt2 := Paired.length pr2
      refine l_cat (s2 _ _ em1) em2 (by rw [List.length_map, List.length_map, sizeLine_eq]; omega) fun m3 J3 nm3 s3 em3 => ?_
      walk_at "s"
      rw [← List.map_append] at em3
      have pr3 : Paired (fun (t : Addr) (e : Key × V) => SqT K J3 t [kV e.1, e.2]) (ts1 ++ ts2) (kvs1 ++ kvs2) := G9.paired_app (paired_imp (fun _ _ z => sqt_same (s2.trans s3) z) pr1) (paired_imp (fun _ _ z => sqt_same s3 z) pr2)
      refine l_dictP (SqL.of em3) pr3 fun m4 J4 nm4 s4 em4 => ?_
      have nk : (kvs1.map (·.1)).Nodup := by
        rw [rows1.keys]
        exact List.pairwise_map.mpr (List.Pairwise.imp (fun n e => n (Sum.inr.inj e)) raw1.nd)
      have s04 := ((s1.trans s2).trans s3).trans s4
      have emj : mergeK [] (kvs1 ++ kvs2) = mergeK kvs1 kvs2 := by
        have e : mergeK [] (kvs1 ++ kvs2) = mergeK (mergeK [] kvs1) kvs2 := by
          unfold mergeK
          rw [List.foldl_append]
        rw [e, merge_nil nk]
      rw [emj] at em4
      have eG4 := eG.trans (ext_of s04)
      have rj : RowsAt J4 (mergeK kvs1 kvs2) (jn b c) := rows_join (rows_ext eG4 rows2) (rows_ext eG4 rows1) raw1.nd raw2.nd (no_clash raw2.nd ok)
      walk_at "s"
      refine ⟨a', m4, jn b c, rfl, bk'.same s04, ⟨_, em4, rj⟩, raw1.join raw2 lk6, fun J5 s5 => l_bl (i_f rfl ?_)⟩
      exact ⟨_, rfl, eG4.trans (ext_of s5), (tG.ext s04).ext s5, s5 _ _ (s04 _ _ eSG)⟩
  · obtain ⟨v, rfl, eJ, tJ, eSJ⟩ := m
    have ep1J := eJ _ _ ep1 (fun _ z => by cases z)
    have ep2J := eJ _ _ ep2 (fun _ z => by cases z)
    walk_at "s"
    refine s_itemsK ?_
    walk_at "s"
    refine l_itemsK ep1J fun v1 J1 nv1 sv1 ev1 => ?_
    walk_at "s"
    obtain ⟨ks1, ek1, rk1⟩ := rows_ents (rows_ext (eJ.trans (ext_of sv1)) rows1)
    have lk1 := Paired.length rk1
    have ep11 := sv1 _ _ ep1J
    rw [ek1] at ep11
    refine l_sortIt ev1 ep11 (by omega) fun o1 J2 ps1 s2 pm1 od1 eo1 tp1 => ?_
    walk_at "s"
    refine s_itemsK ?_
    walk_at "s"
    refine l_itemsK (s2 _ _ (sv1 _ _ ep2J)) fun v2 J3 nv2 sv2 ev2 => ?_
    walk_at "s"
    have eJ3 := eJ.trans (ext_of ((sv1.trans s2).trans sv2))
    obtain ⟨ks2, ek2, rk2⟩ := rows_ents (rows_ext eJ3 rows2)
    have lk2 := Paired.length rk2
    have ep22 := ((sv1.trans s2).trans sv2) _ _ ep2J
    rw [ek2] at ep22
    refine l_sortIt ev2 ep22 (by omega) fun o2 J4 ps2 s4 pm2 od2 eo2 tp2 => ?_
    have s24 := (s2.trans sv2).trans s4
    have d1 : Dp K J4 (.ref o1) (itemsD (sortB b)) := by
      have en := ents_sorted raw1.nd rk1 pm1 od1
      exact .lst (SqL.of ((sv2.trans s4) _ _ eo1)) (ents_dp (Paired.mono (fun _ _ a => ⟨a.1, pairV_bears.same _ _ _ s24 a.2⟩) en) fun z hz => (sv2.trans s4) _ _ (tp1 z hz))
    have d2 : Dp K J4 (.ref o2) (itemsD (sortB c)) := by
      have en := ents_sorted raw2.nd rk2 pm2 od2
      exact .lst (SqL.of eo2) (ents_dp (Paired.mono (fun _ _ a => ⟨a.1, pairV_bears.same _ _ _ s4 a.2⟩) en) tp2)
    refine l_eqD d1 d2 (items_shaped (raw1.perm (sortB_perm b))) (items_shaped (raw2.perm (sortB_perm c))) ?_
    rw [items_eqv]
    walk_at "s"
    have s04 := ((sv1.trans s2).trans sv2).trans s4
    have eJ4 := eJ.trans (ext_of s04)
    have bk14 := bk1.ext eJ4
    have bk24 := bk2.ext eJ4
    obtain ⟨dx1, fs1, i1, lk11⟩ := bk14.ins
    obtain ⟨dx2, fs2, i2, lk22⟩ := bk24.ins
    refine ⟨.ref T.c_Book, T.o_Book.ty i2, T.o_Book.nfC, a1, dx1, fs1, rfl, i1, a1, sortB b, .ref a2, rfl, bk14.rd, Or.inl ⟨a2, sortB c, rfl, bk24.rd, ?_⟩⟩
    walk_at "s"
    refine ⟨.ref T.c_Book, T.o_Book.ty i1, T.o_Book.nfC, a2, dx2, fs2, rfl, i2, a2, sortB c, .ref a1, rfl, bk24.rd, Or.inl ⟨a1, sortB b, rfl, bk14.rd, ?_⟩⟩
    walk_at "s"
    refine ⟨.ref T.c_Book, T.o_Book.ty i2, T.o_Book.nfC, a1, dx1, fs1, rfl, i1, a1, sortB b, .ref a2, rfl, bk14.rd, Or.inl ⟨a2, sortB c, rfl, bk24.rd, _, rfl, ?_⟩⟩
    walk_at "s"
    have esy : decide (sortB c = sortB b) = decide (sortB b = sortB c) := decide_eq_decide.mpr ⟨Eq.symm, Eq.symm⟩
    rw [esy]
    refine l_newL (by show 3 ≤ sizeLine; decide) fun r1 J5 nr1 s5 er1 => ?_
    walk_at "s"
    have smB : ∀ x y z : Bool, Sml 40000 1 (.list [.bool x, .bool y, .bool z]) := fun x y z => by
      have q := sml_list (n := 1921) (m := 0) (ds := [.bool x, .bool y, .bool z]) fun d hd => by
        simp only [List.mem_cons, List.not_mem_nil, or_false] at hd
        rcases hd with rfl | rfl | rfl
        · exact (sml_bl _).up (by omega) (by omega)
        · exact (sml_bl _).up (by omega) (by omega)
        · exact (sml_bl _).up (by omega) (by omega)
      exact q.up (by simp only [List.length_cons, List.length_nil]; omega) (by omega)
    have sm := smB (decide (sortB b = sortB c)) (decide (sortB b = sortB c)) (!decide (sortB b = sortB c))
    refine l_repr (.lst (SqL.of er1) (.cons (.bl _) (.cons (.bl _) (.cons (.bl _) .nil)))) sm.sh sm.nd (by have := sm.dp; omega) (by have := sm.ln; rw [sizeLine_eq]; omega) ?_
    walk_at "s"
    refine l_newL (by show 3 ≤ sizeLine; decide) fun r2 J6 nr2 s6 er2 => ?_
    walk_at "s"
    refine l_repr (.lst (SqL.of er2) (.cons (.bl _) (.cons (.bl _) (.cons (.bl _) .nil)))) sm.sh sm.nd (by have := sm.dp; omega) (by have := sm.ln; rw [sizeLine_eq]; omega) ?_
    walk_at "s"
    refine i_f (by rw [decide_eq_true rfl]; rfl) ?_
    walk_at "s"
    have s46 := s5.trans s6
    have eJ6 := eJ4.trans (ext_of s46)
    have tJ6 := tJ.ext (s04.trans s46)
    refine s_cut (fun τ J' => τ = [some (.ref d), some (.ref a1), some (.ref a2), some (.ref p), some (.ref q), some (.ref S), some (.bl (decide (Clash b c))), some v, some (.bl (decide (sortB b = sortB c))), some (.bl (decide (∀ e ∈ sortB b, e ∈ sortB c))), none] ∧ J' = J6) ?_ (fun τ J' m => ?_)
    · walk_at "s"
      refine l_lenL (SqL.of ((s04.trans s46) _ _ eSJ)) ?_
      walk_at "s"
      refine l_lenD ((s04.trans s46) _ _ ep1J) ?_
      walk_at "s"
      rw [within_eq raw1.nd raw2.nd]
      have ee : decide (V.int (((shN b c).map V.str).length : Int) = V.int (kvs1.length : Int)) = decide (((shN b c).length : Int) = (b.length : Int)) := by
        rw [List.length_map, l1]
        exact decide_eq_decide.mpr ⟨fun z => V.int.inj z, fun z => congrArg V.int z⟩
      rw [ee]
      refine i_b (fun z => ?_) (fun z => ?_)
      · walk_at "s"
        refine ⟨?_, rfl⟩
        rw [z, Bool.true_and]
        rfl
      · walk_at "s"
        refine ⟨?_, rfl⟩
        rw [z, Bool.false_and]
        rfl
    obtain ⟨rfl, rfl⟩ := m
    have bk16 := bk1.ext eJ6
    have bk26 := bk2.ext eJ6
    obtain ⟨dx1', fs1', i1', lk1'⟩ := bk16.ins
    walk_at "s"
    refine l_ownM i1' (lk1' _ (by decide) (by decide)) ?_
    walk_at "s"
    refine ⟨a1, sortB b, .ref a2, rfl, bk16, Or.inl ⟨a2, sortB c, rfl, bk26.rd, fun J7 s7 => ?_⟩⟩
    have bk17 := bk16.same s7
    walk_at "s"
    refine l_ownM (s7 _ _ i1') (lk1' _ (by decide) (by decide)) ?_
    walk_at "s"
    refine ⟨a1, sortB b, .ref a1, rfl, bk17, Or.inl ⟨a1, sortB b, rfl, bk17.rd, fun J8 s8 => ?_⟩⟩
    walk_at "s"
    rw [decide_eq_true (show ∀ e ∈ sortB b, e ∈ sortB b from fun _ z => z)]
    generalize decide (∀ e ∈ sortB b, e ∈ sortB c) = wi
    have sm2 : Sml 40000 1 (.list [.bool wi, .bool true]) := by
      have q := sml_list (n := 1921) (m := 0) (ds := [.bool wi, .bool true]) fun d hd => by
        simp only [List.mem_cons, List.not_mem_nil, or_false] at hd
        rcases hd with rfl | rfl
        · exact (sml_bl _).up (by omega) (by omega)
        · exact (sml_bl _).up (by omega) (by omega)
      exact q.up (by simp only [List.length_cons, List.length_nil]; omega) (by omega)
    refine l_newL (by show 2 ≤ sizeLine; decide) fun r3 J9 nr3 s9 er3 => ?_
    walk_at "s"
    refine l_repr (.lst (SqL.of er3) (.cons (.bl _) (.cons (.bl _) .nil))) sm2.sh sm2.nd (by have := sm2.dp; omega) (by have := sm2.ln; rw [sizeLine_eq]; omega) ?_
    walk_at "s"
    refine l_newL (by show 2 ≤ sizeLine; decide) fun r4 J10 nr4 s10 er4 => ?_
    walk_at "s"
    refine l_repr (.lst (SqL.of er4) (.cons (.bl _) (.cons (.bl _) .nil))) sm2.sh sm2.nd (by have := sm2.dp; omega) (by have := sm2.ln; rw [sizeLine_eq]; omega) ?_
    walk_at "s"
    refine i_f (by rw [decide_eq_true rfl]; rfl) ?_
    walk_at "s"
    have s610 := ((s7.trans s8).trans s9).trans s10
    have eJ10 := eJ6.trans (ext_of s610)
    refine ⟨a1, p, b, rfl, bk1.ext eJ10, pairs_ext eJ10 pk1, raw1, fun J11 s11 => l_bl (i_t rfl ?_)⟩
    walk_at "s"
    have eJ11 := eJ10.trans (ext_of s11)
    refine ⟨a2, q, c, rfl, bk2.ext eJ11, pairs_ext eJ11 pk2, raw2, fun J12 s12 => ?_⟩
    exact k J12 (eJ11.trans (ext_of s12)) (((tJ6.ext s610).ext s11).ext s12)
end
/-! ### what stays while dice are thrown and tables grow -/
section
variable {K : PySem.W.Frag} {mg : Str → Option Value} {T : Txt K mg} {H G J : Hp} {a d p q : Addr} {b : PB} {xs : List V}
def Ex (d : Addr) (H G : Hp) : Prop := DiceAt G d ∧ ∀ b o, b ≠ d → H b = some o → (∀ ps, o ≠ .tbl ps) → G b = some o
theorem Ex.refl (h : DiceAt H d) : Ex d H H := ⟨h, fun _ _ _ e _ => e⟩
theorem Ex.trans (x : Ex d H G) (y : Ex d G J) : Ex d H J := ⟨y.1, fun b o n e t => y.2 b o n (x.2 b o n e t) t⟩
theorem Ex.dc (c : Dc d H G) : Ex d H G := ⟨c.dice, fun b o n e _ => c.keep b o n e⟩
theorem Ex.ext (h : DiceAt H d) (s : LamX.ExtN H G) : Ex d H G := by
  obtain ⟨x, y, z, e⟩ := h
  exact ⟨⟨x, y, z, s _ _ e fun _ q => by cases q⟩, fun b o _ e t => s b o e t⟩
theorem Ex.same (h : DiceAt H d) (s : Same H G) : Ex d H G := Ex.ext h (ext_of s)
theorem Ex.new {o : HO} (x : Ex d H G) (n : H q = none) (nd : q ≠ d) : Ex d H (upd G q o) := by
  refine ⟨?_, fun b u nb e t => ?_⟩
  · obtain ⟨x1, x2, x3, z⟩ := x.1
    exact ⟨x1, x2, x3, by rw [upd_ne (Ne.symm nd)]; exact z⟩
  · rw [upd_ne (ne_of_none e n)]
    exact x.2 b u nb e t
theorem Ex.at {o : HO} (h : DiceAt H d) (x : Ex d H G) (e : H p = some o) (n1 : ∀ ys, o ≠ .lst ys) (n2 : ∀ ps, o ≠ .tbl ps) : G p = some o := by
  refine x.2 p o (fun z => ?_) e n2
  obtain ⟨_, _, _, q⟩ := h
  rw [z, q] at e
  exact n1 _ (Option.some.inj e).symm
theorem pairV_ex {v : V} {t : Nat} {as : List Str} (h : DiceAt H d) (x : Ex d H G) (r : PairV H v t as) : PairV G v t as := by
  obtain ⟨pr, an, e, h1, h2⟩ := r
  exact ⟨pr, an, e, x.at h h1 (fun _ z => by cases z) (fun _ z => by cases z), x.at h h2 (fun _ z => by cases z) (fun _ z => by cases z)⟩
theorem outV_ex {v : V} {as : List Str} (h : DiceAt H d) (x : Ex d H G) (r : OutV H v as) : OutV G v as := by
  obtain ⟨t, e, h1⟩ := r
  exact ⟨t, e, x.at h h1 (fun _ z => by cases z) (fun _ z => by cases z)⟩
theorem BookAt.ex (h : DiceAt H d) (x : Ex d H G) (r : BookAt T H a b) : BookAt T G a b := by
  obtain ⟨dx, p, o, kvs, ows, h1, h2, h3, h4, h5, h6⟩ := r
  exact ⟨dx, p, o, kvs, ows, x.at h h1 (fun _ z => by cases z) (fun _ z => by cases z), x.at h h2 (fun _ z => by cases z) (fun _ z => by cases z), x.at h h3 (fun _ z => by cases z) (fun _ z => by cases z),
    Paired.mono (fun _ _ a => ⟨a.1, pairV_ex h x a.2⟩) h4, Paired.mono (fun _ _ a => ⟨a.1, outV_ex h x a.2⟩) h5, h6⟩
theorem pairs_ex (h : DiceAt H d) (x : Ex d H G) (r : PairsAt H p b) : PairsAt G p b := by
  obtain ⟨kvs, h1, h2⟩ := r
  exact ⟨kvs, x.at h h1 (fun _ z => by cases z) (fun _ z => by cases z), Paired.mono (fun _ _ a => ⟨a.1, pairV_ex h x a.2⟩) h2⟩
theorem sql_ex (n : p ≠ d) (x : Ex d H G) (h : SqL K H p xs) : SqL K G p xs := by
  rcases h with h | h
  · rcases h with h | ⟨o, h⟩
    · exact Or.inl (Or.inl (x.2 _ _ n h fun _ z => by cases z))
    · exact Or.inl (Or.inr ⟨o, x.2 _ _ n h fun _ z => by cases z⟩)
  · exact Or.inr h
theorem tabs_dc {Tb : List (Addr × Str)} (h : DiceAt H d) (k : Keep d H G) (t : LamX.Tabs Tb H) : LamX.Tabs Tb G := fun q hq => by
  obtain ⟨ps, h1, h2, h3⟩ := t q hq
  have ne : ∀ {b : Addr} {u : HO}, H b = some u → (∀ ys, u ≠ .lst ys) → G b = some u := fun {b u} e n => k b u (fun z => by
    obtain ⟨_, _, _, q⟩ := h
    rw [z, q] at e
    exact n _ (Option.some.inj e).symm) e
  refine ⟨ps, ne h1 (fun _ z => by cases z), h2, fun pos cv hc => ?_⟩
  obtain ⟨c, e1, e2⟩ := h3 pos cv hc
  exact ⟨c, e1, ne e2 fun _ z => by
    unfold LamX.CodeO at z
    cases z⟩
theorem tabs_dk {Tb : List (Addr × Str)} {kvs lvs : List (Key × V)} (t : LamX.Tabs Tb H) (e : H p = some (.dK kvs)) : LamX.Tabs Tb (upd H p (.dK lvs)) := tabs_upd t e (fun _ z => by cases z) (fun c q z => by
  unfold LamX.CodeO at z
  cases z)
theorem pairV_dk {v : V} {t : Nat} {as : List Str} {kvs lvs : List (Key × V)} (e : H q = some (.dK kvs)) (r : PairV H v t as) : PairV (upd H q (.dK lvs)) v t as := pairV_bears.set _ _ _ _ _ e (fun _ z => by cases z) r
theorem book_dk {dx : Addr} {o : Addr} {kvs lvs : List (Key × V)} (e : H q = some (.dK kvs)) (ia : H a = some (.ins T.c_Book dx [("_pairs", .ref p), ("_outcomes", .ref o)])) (n1 : p ≠ q) (n2 : o ≠ q) (r : BookAt T H a b) : BookAt T (upd H q (.dK lvs)) a b := by
  obtain ⟨dx', p', o', kvs', ows, h1, h2, h3, h4, h5, h6⟩ := r
  rw [ia] at h1
  cases h1
  have na : a ≠ q := fun z => by
    rw [z, e] at ia
    cases ia
  exact ⟨_, _, _, kvs', ows, by rw [upd_ne na]; exact ia, by rw [upd_ne n1]; exact h2, by rw [upd_ne n2]; exact h3, h4.set e (fun _ z => by cases z), h5.set e (fun _ z => by cases z), h6⟩
theorem pairs_dk {kvs lvs : List (Key × V)} (e : H q = some (.dK kvs)) (n : p ≠ q) (r : PairsAt H p b) : PairsAt (upd H q (.dK lvs)) p b := by
  obtain ⟨kv, h1, h2⟩ := r
  exact ⟨kv, by rw [upd_ne n]; exact h1, h2.set e fun _ z => by cases z⟩
theorem refs_perm {l : List Addr} {ys : List V} (p : ys.Perm (l.map V.ref)) : ∃ m : List Addr, ys = m.map V.ref ∧ m.Perm l := by
  obtain ⟨l', p', e⟩ := L2.perm_lift V.ref p l rfl
  exact ⟨l', e.symm, p'⟩
/-- list(d.items()), the tuples told -/
theorem l_listI2 {kvs : List (Key × V)} {Q : VK} (hd : H d = some (.dK kvs)) (q : ∀ p ts G, H p = none → Same H G → G p = some (.lst (ts.map V.ref)) → Paired (fun (t : Addr) (e : Key × V) => G t = some (.tup [kV e.1, e.2])) ts kvs → Q (.ref p) G) : LiI.rItemsL (.ref d) H Q :=
  ⟨d, kvs, rfl, hd, fun G p ts g n _ _ e r => q p ts G n g e r⟩
theorem str_told {s : Str} (h1 : s.length ≤ 500) (h2 : ∀ c ∈ s.cps.toList, c < 128) : ∃ y, StrOr K H (.str s) ∧ ShwT K H (.str s) y ∧ PyData.strOk y = true :=
  ⟨_, Or.inl ⟨s, rfl⟩, sml_shwT (.str s) (sml_str (k := 500) h1 h2) (by omega) (by rw [sizeLine_eq]; omega), repr_ok h2⟩
theorem dc_none (c : Dc d H G) (n : G q = none) : H q = none := by
  cases e : H q with
  | none => rfl
  | some u =>
    by_cases z : q = d
    · obtain ⟨_, _, _, z2⟩ := c.dice
      rw [z, z2] at n
      cases n
    · rw [c.keep _ _ z e] at n
      cases n
theorem sort_perm {b c : PB} (nb : (b.map (·.1)).Nodup) (p : c.Perm b) : sortB c = sortB b := pb_ext nb (fun x h => p.mem_iff.mp ((sortB_perm c).mem_iff.mp h)) (fun x h => (sortB_perm b).mem_iff.mp h) (by
  rw [sortB_fst, sortB_fst]
  exact sortS_congr (p.map (·.1)))
end
section
variable {w : World} {K : PySem.W.Frag} {mg : Str → Option Value} {base : Heap}
def sp_right (T : Txt K mg) : Sp := fun vs H Q _ => ∃ d : Addr, vs = [.ref d] ∧ DiceAt H d ∧ LamX.Tabs T.tabs H ∧ ∀ G, Ex d H G → LamX.Tabs T.tabs G → Q (.bl true) G
theorem ok__law_right (T : Txt K mg) (TB1 : LamX.TabB base mg T.co__law_stranger T.tb__law_stranger) (TB2 : LamX.TabB base mg T.co__law_both_right T.tb__law_both_right) (TB : LamX.TabB base mg T.co__law_right T.tb__law_right) : FnG prog0 w K mg base CX0 22 T.a__law_right T.d__law_right ["dice"] (sp_right T) := by
  have G_Book___or__ : FnG prog0 w K mg base (L2.CX prog0 w) 11 T.a_Book___or__ T.d_Book___or__ ["self", "other"] (sp_or T) := ok_Book___or__ T
  have G_Book___eq__ : FnG prog0 w K mg base CX0 3 T.a_Book___eq__ T.d_Book___eq__ ["self", "other"] (sp_eq T) := ok_Book___eq__ T
  have G_Book_is_within : FnG prog0 w K mg base (L2.CX prog0 w) 5 T.a_Book_is_within T.d_Book_is_within ["self", "other"] (sp_is_within T) := ok_Book_is_within T
  have G_Book_without : FnG prog0 w K mg base (L2.CX prog0 w) 11 T.a_Book_without T.d_Book_without ["self", "command"] (sp_without T) := ok_Book_without T
  have G_Book_of : FnG prog0 w K mg base CX0 11 T.a_Book_of T.d_Book_of ["cls", "commands"] (sp_ofF T) := ok_Book_ofF T
  have G__law_is_right : FnG prog0 w K mg base CX0 7 T.a__law_is_right T.d__law_is_right ["book", "pairs"] (sp_is_right T) := ok__law_is_right T
  have G__law_pairs : FnG prog0 w K mg base CX0 5 T.a__law_pairs T.d__law_pairs ["dice", "most", "answers"] sp__law_pairs := ok__law_pairs T
  have G__law_mixed : FnG prog0 w K mg base CX0 2 T.a__law_mixed T.d__law_mixed ["dice", "items"] (sp__law_mixed K) := ok__law_mixed T
  have G__law_told : FnG prog0 w K mg base CX0 7 T.a__law_told T.d__law_told ["book"] (sp__law_told T) := ok__law_told T
  have G__law_one_of : FnG prog0 w K mg base CX0 2 T.a__law_one_of T.d__law_one_of ["dice", "items"] (sp__law_one_of K) := ok__law_one_of T
  have G__law_odd : FnG prog0 w K mg base CX0 3 T.a__law_odd T.d__law_odd ["dice"] (sp__law_odd K) := ok__law_odd T
  have G__law_second : FnG prog0 w K mg base CX0 6 T.a__law_second T.d__law_second ["dice", "pairs"] sp__law_second := ok__law_second T
  have G__law_stranger : FnG prog0 w K mg base CX0 20 T.a__law_stranger T.d__law_stranger ["book", "odd", "pairs"] (sp_stranger T) := ok__law_stranger T TB1
  have G__law_both_right : FnG prog0 w K mg base CX0 20 T.a__law_both_right T.d__law_both_right ["dice", "one", "two", "pairs", "more"] (sp_both T) := ok__law_both_right T TB2
  have hin := T.hin__law_right
  have hun := T.hun__law_right
  have HP := @PassesOwn.never
  refine okGL T.F__law_right T.l__law_right sc__law_right (fun vs H Q E h => ?_) (fun A fs s H vs Q E hr h => ?_)
  · obtain ⟨d, rfl, _⟩ := h
    rfl
  obtain ⟨d, rfl, hd, tabs, k⟩ := h
  have nd := sc__law_right.nd
  refine ⟨_, ((pss_cons (ps_set (i := 1) nd rfl (Or.inr rfl) (pe_callG G__law_pairs (hr.down (by decide)) rfl T.m__law_pairs T.F__law_pairs.kp T.b__law_pairs .nil pass0 (pa_cons (pv 0) (pa_cons pe_int (pa_cons pe_int pa_nil)))))
  (pss_cons (ps_set (i := 2) nd rfl (Or.inl rfl) (pe_callTy (c_dictP rfl) (by rfl) T.z_dict (by decide +kernel) (pa_cons (pe_callG G__law_mixed (hr.down (by decide)) rfl T.m__law_mixed T.F__law_mixed.kp T.b__law_mixed .nil pass0 (pa_cons (pv 0) (pa_cons (LiI.pe_listItems rfl (pv 1) (by rfl) T.z_list (by decide +kernel)) pa_nil))) pa_nil)))
  (pss_cons (ps_set (i := 9) nd rfl (Or.inr rfl) (pe_clsG (pe_glob (v := .ref T.c_Book) rfl T.m_Book rfl) T.o_Book.rd T.P_Book_of G_Book_of (hr.down (by decide)) T.b_Book_of pass0 (pa_cons (pv 2) pa_nil)))
  (pss_cons (ps_asg (pe_tup (pa_cons pe_int (pa_cons (pe_tup (pa_cons pe_str pa_nil)) pa_nil))) (pg_sub (pv 2) pe_str (set_dict hr.hu)))
  (pss_cons (ps_if (PW.pt (pw_or (pt_not (pt_val (pe_callG G__law_is_right (hr.down (by decide)) rfl T.m__law_is_right T.F__law_is_right.kp T.b__law_is_right .nil pass0 (pa_cons (pv 9) (pa_cons (pv 1) pa_nil))))) (pw_or1 (pt_cmpR (op_neDD hr.u70) (pe_callG G__law_told (hr.down (by decide)) rfl T.m__law_told T.F__law_told.kp T.b__law_told .nil pass0 (pa_cons (pv 9) pa_nil)) (pv 1) (nomark _))))) (pss_one (ps_ret pe_bl)) pss_nil)
  (pss_cons (ps_for HP rfl (pi_range1 rfl T.z_range (pa_cons pe_int pa_nil)) (pg_name (i := 3) nd rfl (Or.inl rfl)) (pss_cons (ps_set (i := 10) nd rfl (Or.inr rfl) (pe_callG G__law_one_of (hr.down (by decide)) rfl T.m__law_one_of T.F__law_one_of.kp T.b__law_one_of .nil pass0 (pa_cons (pv 0) (pa_cons (pe_callTy (c_listD rfl) (by rfl) T.z_list (by decide +kernel) (pa_cons (pv 1) pa_nil)) pa_nil))))
  (pss_cons (ps_set (i := 8) nd rfl (Or.inr rfl) (pe_callG G__law_one_of (hr.down (by decide)) rfl T.m__law_one_of T.F__law_one_of.kp T.b__law_one_of .nil pass0 (pa_cons (pv 0) (pa_cons (pe_lst (pa_cons (pe_callG G__law_odd (hr.down (by decide)) rfl T.m__law_odd T.F__law_odd.kp T.b__law_odd .nil pass0 (pa_cons (pv 0) pa_nil)) (pa_cons (pe_op o_addS (pv 10) pe_str) (pa_cons (pe_slice sl_str (pv 10) po_none (po_some (pe_un un_neg pe_int))) pa_nil)))) pa_nil))))
  (pss_one (ps_if (pt_not (pt_val (pe_callG G__law_stranger (hr.down (by decide)) rfl T.m__law_stranger T.F__law_stranger.kp T.b__law_stranger .nil pass0 (pa_cons (pv 9) (pa_cons (pv 8) (pa_cons (pv 1) pa_nil)))))) (pss_one (ps_ret pe_bl)) pss_nil)))))
  (pss_cons (ps_set (i := 8) nd rfl (Or.inr rfl) (pe_callG G__law_one_of (hr.down (by decide)) rfl T.m__law_one_of T.F__law_one_of.kp T.b__law_one_of .nil pass0 (pa_cons (pv 0) (pa_cons (pe_lst (pa_cons pe_non (pa_cons pe_int (pa_cons pe_str (pa_cons (pe_tup pa_nil) (pa_cons pe_dnewK (pa_cons (pv 1) (pa_cons (pe_lst (pa_cons pe_str pa_nil)) pa_nil)))))))) pa_nil))))
  (pss_cons (ps_set (i := 4) nd rfl (Or.inl rfl) (pe_lst (pa_cons (pe_lamF (k := 12) (Ng := ["call", "e"]) rfl T.m__law_met T.F__law_met T.b__law_met sc__law_met rfl (Or.inl rfl) (fun cdv => gives_metK T rfl rfl cdv _ _) TB rfl hin hun (hr.down (by decide)) (LamX.lamS_by (by show LamX.lamSB (defScope s__law_right) _ = true; decide +kernel)) rfl (fun _ _ _ _ _ => rfl) (fun A outer s H E f c hr => by exact (pe_op (show OpR _ _ (rOwnBinK K _ _ _) from (op_ownBinK T.o_Book.sf T.B_Book___or__ T.D_Book___or__ G_Book___or__ (hr.down (by decide)) T.b_Book___or__ (pxE lam_takes (fun _ _ _ _ h => h)))) (pv 9) (pv 8)))) pa_nil)))
  (pss_cons (ps_expr (pe_bm PySem.F.plainAttrs_list PySem.F.slot_list_append PySem.F.type_list_append mt_append (pv 4) (pa_cons (pe_lamF (k := 12) (Ng := ["call", "e"]) rfl T.m__law_met T.F__law_met T.b__law_met sc__law_met rfl (Or.inl rfl) (fun cdv => gives_metK T rfl rfl cdv _ _) TB rfl hin hun (hr.down (by decide)) (LamX.lamS_by (by show LamX.lamSB (defScope s__law_right) _ = true; decide +kernel)) rfl (fun _ _ _ _ _ => rfl) (fun A outer s H E f c hr => by exact (pe_methG (pv 9) T.o_Book.cl T.M_Book_is_within G_Book_is_within (hr.down (by decide)) T.b_Book_is_within (pxE lam_takes (fun _ _ _ _ h => h)) (pa_cons (pv 8) pa_nil)))) pa_nil)))
  (pss_cons (ps_set (i := 4) nd rfl (Or.inl rfl) (pe_op op_cat (pv 4) (pe_lst (pa_cons (pe_cmpR (op_ownEq T.D_Book___eq__ G_Book___eq__ (hr.down (by decide)) T.b_Book___eq__ pass0) (pv 9) (pv 8) (nomark _)) (pa_cons (pe_cmpR (op_ownNe T.N_Book T.D_Book___eq__ G_Book___eq__ (hr.down (by decide)) T.b_Book___eq__ pass0) (pv 9) (pv 8) (nomark _)) pa_nil)))))
  (pss_cons (ps_if (pt_cmpR (op_neD hr.r.units) (pv 4) (pe_lst (pa_consts (by rfl))) (nomark _)) (pss_one (ps_ret pe_bl)) pss_nil)
  (pss_cons (ps_set (i := 5) nd rfl (Or.inl rfl) (pe_callG G__law_second (hr.down (by decide)) rfl T.m__law_second T.F__law_second.kp T.b__law_second .nil pass0 (pa_cons (pv 0) (pa_cons (pv 1) pa_nil))))
  (pss_cons (ps_if (pt_not (pt_val (pe_callG G__law_both_right (hr.down (by decide)) rfl T.m__law_both_right T.F__law_both_right.kp T.b__law_both_right .nil pass0 (pa_cons (pv 0) (pa_cons (pv 9) (pa_cons (pe_clsG (pe_glob (v := .ref T.c_Book) rfl T.m_Book rfl) T.o_Book.rd T.P_Book_of G_Book_of (hr.down (by decide)) T.b_Book_of pass0 (pa_cons (pv 5) pa_nil)) (pa_cons (pv 1) (pa_cons (pv 5) pa_nil)))))))) (pss_one (ps_ret pe_bl)) pss_nil)
  (pss_cons (ps_set (i := 10) nd rfl (Or.inr rfl) (pe_callG G__law_one_of (hr.down (by decide)) rfl T.m__law_one_of T.F__law_one_of.kp T.b__law_one_of .nil pass0 (pa_cons (pv 0) (pa_cons (pe_callTy (c_listD rfl) (by rfl) T.z_list (by decide +kernel) (pa_cons (pv 1) pa_nil)) pa_nil))))
  (pss_cons (ps_set (i := 6) nd rfl (Or.inl rfl) (pe_callTy (c_dictP rfl) (by rfl) T.z_dict (by decide +kernel) (pa_cons (pe_lock (pe_lc (own := [("name_here", 11)]) rfl nd (pi_keys (pv 1)) (blkOk_by (own := [("name_here", 11)]) (N := ["dice", "pairs", "given", "turn", "told", "more", "less", "other", "odd", "one", "word", "name_here"]) (sc := defScope s__law_right) (by decide +kernel)) (fun _ _ _ _ _ => pg_name (i := 11) nd rfl (Or.inl rfl)) (fun _ _ _ _ _ => by exact (pts_one (pt_cmpR op_ne (pv 11) (pv 10) (nomark _)))) (fun _ _ _ _ _ => by exact (pe_tup (pa_cons (pv 11) (pa_cons (pe_dget hr.hu (pv 1) (pv 11) (fun _ _ => rfl)) pa_nil)))))) pa_nil)))
  (pss_cons (ps_set (i := 7) nd rfl (Or.inl rfl) (pe_lamF (k := 12) (Ng := ["call", "e"]) rfl T.m__law_met T.F__law_met T.b__law_met sc__law_met rfl (Or.inl rfl) (fun cdv => gives_metK T rfl rfl cdv _ _) TB rfl hin hun (hr.down (by decide)) (LamX.lamS_by (by show LamX.lamSB (defScope s__law_right) _ = true; decide +kernel)) rfl (fun _ _ _ _ _ => rfl) (fun A outer s H E f c hr => by exact (pe_methG (pv 9) T.o_Book.cl T.M_Book_without G_Book_without (hr.down (by decide)) T.b_Book_without (pxE lam_takes (fun _ _ _ _ h => h)) (pa_cons (pv 10) pa_nil)))))
  (pss_cons (ps_if (pt_cmpR (op_eqDD hr.u70) (pv 6) pe_dnewK (nomark _)) (pss_one (ps_ret (pe_cmpR op_eq (pv 7) pe_str (nomark _)))) pss_nil)
  (pss_one (ps_ret (pe_and (pe_callG G__law_is_right (hr.down (by decide)) rfl T.m__law_is_right T.F__law_is_right.kp T.b__law_is_right .nil pass0 (pa_cons (pv 7) (pa_cons (pv 6) pa_nil))) (pe_one (pe_callG G__law_is_right (hr.down (by decide)) rfl T.m__law_is_right T.F__law_is_right.kp T.b__law_is_right .nil pass0 (pa_cons (pv 9) (pa_cons (pv 1) pa_nil))))))))))))))))))))))))), ?_⟩
  walk_at "s"
  refine ⟨d, rfl, hd, fun p G0 b g0 np ep dc0 => ?_⟩
  walk_at "s"
  refine s_listI ?_
  obtain ⟨kvs, ekv, rows⟩ := id ep
  walk_at "s"
  refine l_listI2 ekv fun l ts G1 nl s1 el pr => ?_
  walk_at "s"
  have raw := g0.raw
  have n6 := raw.n6
  have lk : kvs.length = b.length := rows.len
  have hd1 : DiceAt G1 d := dc0.dice.same s1
  have nld : l ≠ d := fun z => (dc0.dice.ne nl) z.symm
  have ltk := Paired.length pr
  refine ⟨d, l, _, rfl, hd1, SqL.of el, nld, by rw [List.length_map]; omega, fun m G2 ys pm nm em dc2 => ?_⟩
  obtain ⟨ts2, rfl, pt⟩ := refs_perm pm
  walk_at "s"
  have dc02 := (dc0.same s1).trans dc2
  have pr2 : Paired (fun (t : Addr) (e : Key × V) => G2 t = some (.tup [kV e.1, e.2])) ts kvs := paired_imp (fun t e z => dc2.keep _ _ (fun q => by
    obtain ⟨_, _, _, e2⟩ := hd1
    rw [q, e2] at z
    cases z) z) pr
  obtain ⟨kvs2, pq, pk⟩ := paired_perm pt pr2
  refine l_dictP (SqL.of em) (paired_imp (fun _ _ z => tup_at z) pq) fun gv G3 ngv s3 egv => ?_
  have nk : (kvs.map (·.1)).Nodup := by
    rw [rows.keys]
    exact List.pairwise_map.mpr (List.Pairwise.imp (fun n e => n (Sum.inr.inj e)) raw.nd)
  rw [merge_nil ((pk.map (·.1)).nodup_iff.mpr nk)] at egv
  have nHgv := dc_none dc02 ngv
  have dc03 := dc02.same s3
  have ep3 : PairsAt G3 p b := pairs_same s3 (pairs_dc hd1 dc2.keep (pairs_same s1 ep))
  have npg : p ≠ gv := fun z => by
    obtain ⟨kv, e, _⟩ := pairs_dc hd1 dc2.keep (pairs_same s1 ep)
    rw [z, ngv] at e
    cases e
  have rows3 : RowsAt G3 kvs b := (rows_keep hd1 dc2.keep (rows.same s1)).same s3
  obtain ⟨b2, rows2, pb⟩ := paired_perm pk rows3
  walk_at "s"
  refine ⟨rfl, ?_⟩
  walk_at "s"
  refine ⟨_, gv, kvs2, b2, rfl, egv, rows2, raw.perm pb, fun a G4 na s4 bk fr => ?_⟩
  rw [sort_perm raw.nd pb] at bk
  obtain ⟨dx, pa, oa, npa, noa, ia⟩ := fr
  walk_at "s"
  refine l_newT (by show 1 ≤ sizeLine; decide) fun t1 G5 nt1 s5 et1 => ?_
  walk_at "s"
  refine l_newT (by show 2 ≤ sizeLine; decide) fun t2 G6 nt2 s6 et2 => ?_
  walk_at "s"
  have egv6 := (s5.trans s6) _ _ (s4 _ _ egv)
  have lk2 : kvs2.length = kvs.length := pk.length_eq
  refine ⟨gv, _, rfl, DPut.k (k := .inr "zzzz") egv6 (by rw [sizeLine_eq]; omega), ?_⟩
  have s36 := (s4.trans s5).trans s6
  have x6 : Ex d H G6 := (Ex.dc dc03).trans (Ex.same dc03.dice s36)
  have ngd : gv ≠ d := fun z => by
    obtain ⟨_, _, _, e⟩ := hd
    rw [z, e] at nHgv
    cases nHgv
  have bk7 := book_dk (lvs := putK kvs2 (.inr ("zzzz" : Str)) (.ref t2)) egv6 ((s5.trans s6) _ _ ia) (fun z => by rw [z, egv] at npa; cases npa) (fun z => by rw [z, egv] at noa; cases noa) (bk.same (s5.trans s6))
  have pk7 := pairs_dk (lvs := putK kvs2 (.inr ("zzzz" : Str)) (.ref t2)) egv6 npg (pairs_same s36 ep3)
  have x7 := x6.new (o := .dK (putK kvs2 (.inr ("zzzz" : Str)) (.ref t2))) nHgv ngd
  have tb7 := tabs_dk (lvs := putK kvs2 (.inr ("zzzz" : Str)) (.ref t2)) ((tabs_dc hd dc03.keep tabs).ext s36) egv6
  have hd7 := x7.1
  generalize upd G6 gv (.dK (putK kvs2 (.inr ("zzzz" : Str)) (.ref t2))) = H7 at bk7 pk7 x7 tb7 hd7 ⊢
  walk_at "s"
  have sb : sortB b = b := g0.sorted
  refine ⟨a, p, b, rfl, bk7, pk7, raw, fun G8 s8 => l_bl (i_f rfl ?_)⟩
  walk_at "s"
  refine ⟨a, sortB b, rfl, bk7.same s8, fun q G9 nq s9 pq => ?_⟩
  walk_at "s"
  rw [sb] at pq
  have pk9 := pairs_same (s8.trans s9) pk7
  obtain ⟨kq, ekq, rkq⟩ := pq
  obtain ⟨kp, ekp, rkp⟩ := id pk9
  refine ⟨q, p, kq, kp, rowsD b, rowsD b, rfl, rfl, Or.inl ekq, Or.inl ekp, rows_holds rkq raw.pr, rows_holds rkp raw.pr, ?_⟩
  rw [eqD_rows g0 g0, decide_eq_true rfl]
  refine l_bl (i_f rfl ?_)
  walk_at "s"
  have s79 := s8.trans s9
  have hd9 := hd7.same s79
  have bk9 : BookAt T G9 a b := by
    have z := bk7.same s79
    rw [sb] at z
    exact z
  have x9 : Ex d H G9 := x7.trans (Ex.same hd7 s79)
  have tb9 := tb7.ext s79
  clear s8 s9 s79 bk7 pk7 x7 tb7 hd7 nq ekq rkq kq q
  have n1 := raw.n1
  refine l_forR (n := 3) (by decide) (by decide) (fun i τ G => ∃ z3 z8 z10 : Option V, τ = [some (.ref d), some (.ref p), some (.ref gv), z3, none, none, none, none, z8, some (.ref a), z10, none] ∧ Ex d G9 G ∧ LamX.Tabs T.tabs G) ⟨none, none, none, rfl, Ex.refl hd9, tb9⟩ (fun i τ J hi m => ?_) (fun τ J m => ?_)
  · obtain ⟨z3, z8, z10, rfl, xJ, tJ⟩ := m
    have hdJ := xJ.1
    have pkJ := pairs_ex hd9 xJ pk9
    have bkJ := bk9.ex hd9 xJ
    obtain ⟨kv, ekv', rkv⟩ := id pkJ
    walk_at "s"
    refine l_listK (Or.inl ekv') fun q G2 nq sq eq => ?_
    walk_at "s"
    rw [keys_str rkv] at eq
    refine ⟨d, q, _, rfl, hdJ.same sq, SqL.of eq, fun z => (hdJ.ne nq) z.symm, by rw [List.length_map, List.length_map]; omega, by rw [List.length_map, List.length_map]; omega, fun x J1 hx dc => ?_⟩
    obtain ⟨s', hs', rfl⟩ := List.mem_map.mp hx
    obtain ⟨e, he, rfl⟩ := List.mem_map.mp hs'
    have xJ1 : Ex d G9 J1 := (xJ.trans (Ex.same hdJ sq)).trans (Ex.dc dc)
    have tJ1 := tabs_dc (hdJ.same sq) dc.keep (tJ.ext sq)
    have wn := name_txt (answer_name (raw.nm e he))
    have hdJ1 := xJ1.1
    walk_at "s"
    refine ⟨d, rfl, hdJ1, fun x J2 dc2 od => ?_⟩
    walk_at "s"
    have lx : (("x" : Str)).length = 1 := by decide +kernel
    have cx : ∀ c ∈ (("x" : Str)).cps.toList, c < 128 := by decide +kernel
    refine l_addS (by rw [lx, sizeLine_eq]; have := wn.1; omega) ?_
    have wl := txt_len wn
    walk_at "s"
    refine l_newL (by show 3 ≤ sizeLine; decide) fun l2 J3 nl2 s3 el2 => ?_
    walk_at "s"
    have hdJ3 := dc2.dice.same s3
    refine ⟨d, l2, _, rfl, hdJ3, SqL.of el2, fun z => (dc2.dice.ne nl2) z.symm, (by show 0 < 3; decide), (by show 3 < 1000000; decide), fun y J4 hy dc4 => ?_⟩
    walk_at "s"
    have xJ4 : Ex d G9 J4 := ((xJ1.trans (Ex.dc dc2)).trans (Ex.same dc2.dice s3)).trans (Ex.dc dc4)
    have tJ4 := tabs_dc hdJ3 dc4.keep ((tabs_dc hdJ1 dc2.keep tJ1).ext s3)
    have od4 : OddD K J1 J4 x := (od.nk (NK.of s3)).nk fun b o n e => dc4.keep b o (fun z => by
      obtain ⟨_, _, _, q⟩ := hdJ1
      rw [z, q] at n
      cases n) e
    have told : ∃ yt, StrOr K J4 y ∧ ShwT K J4 y yt ∧ PyData.strOk yt = true := by
      simp only [List.mem_cons, List.not_mem_nil, or_false] at hy
      rcases hy with rfl | rfl | rfl
      · obtain ⟨yt, h1, h2⟩ := od4.shw
        exact ⟨yt, od4.str, h1, h2⟩
      · refine str_told (by rw [append_len, lx]; have := wn.1; omega) fun c hc => ?_
        rcases append_mem hc with h | h
        · exact wn.2 c h
        · exact cx c h
      · refine str_told (Nat.le_trans cutS_len (by have := wn.1; omega)) fun c hc => wn.2 c (cutS_mem hc)
    obtain ⟨yt, h1, h2, h3⟩ := told
    refine ⟨a, p, b, y, yt, rfl, bk9.ex hd9 xJ4, pairs_ex hd9 xJ4 pk9, tJ4, h1, h2, ok_app (by decide +kernel) h3, fun J5 e5 t5 => l_bl (i_f rfl ?_)⟩
    exact ⟨_, _, _, rfl, xJ4.trans (Ex.ext xJ4.1 e5), t5⟩
  · obtain ⟨z3, z8, z10, rfl, xJ, tJ⟩ := m
    have hdJ := xJ.1
    have pkJ := pairs_ex hd9 xJ pk9
    obtain ⟨kv, ekv', rkv⟩ := id pkJ
    walk_at "s"
    refine l_newT (by show 0 ≤ sizeLine; decide) fun t0 K1 nt0 st0 et0 => ?_
    walk_at "s"
    refine l_dnew fun D0 K2 nD0 sD0 eD0 => ?_
    walk_at "s"
    refine l_newL (by show 1 ≤ sizeLine; decide) fun A0 K3 nA0 sA0 eA0 => ?_
    walk_at "s"
    refine l_newL (by show 7 ≤ sizeLine; decide) fun L0 K4 nL0 sL0 eL0 => ?_
    walk_at "s"
    have hdK3 : DiceAt K3 d := ((hdJ.same st0).same sD0).same sA0
    have sJ4 := ((st0.trans sD0).trans sA0).trans sL0
    have hdK4 : DiceAt K4 d := hdJ.same sJ4
    refine ⟨d, L0, _, rfl, hdK4, SqL.of eL0, fun z => (hdK3.ne nL0) z.symm, (by show 0 < 7; decide), (by show 7 < 1000000; decide), fun y K5 hy dc5 => ?_⟩
    walk_at "s"
    have xK5 : Ex d G9 K5 := (xJ.trans (Ex.same hdJ sJ4)).trans (Ex.dc dc5)
    have tK5 := tabs_dc hdK4 dc5.keep (tJ.ext sJ4)
    have kd : KindAt K K5 y := by
      simp only [List.mem_cons, List.not_mem_nil, or_false] at hy
      rcases hy with rfl | rfl | rfl | rfl | rfl | rfl | rfl
      · exact kind_non
      · exact kind_int
      · exact kind_str
      · exact ⟨"tuple", by decide, .base (.tup ((Ex.dc dc5).at hdK4 ((sD0.trans (sA0.trans sL0)) _ _ et0) (fun _ z => by cases z) (fun _ z => by cases z)))⟩
      · exact ⟨"dict", by decide, .base (.dK ((Ex.dc dc5).at hdK4 ((sA0.trans sL0) _ _ eD0) (fun _ z => by cases z) (fun _ z => by cases z)))⟩
      · exact ⟨"dict", by decide, .base (.dK ((Ex.dc dc5).at hdK4 (sJ4 _ _ ekv') (fun _ z => by cases z) (fun _ z => by cases z)))⟩
      · exact ⟨"list", by decide, .base (.lst (dc5.keep _ _ (fun z => (((hdJ.same st0).same sD0).ne nA0) z.symm) (sL0 _ _ eA0)))⟩
    have bk5 := bk9.ex hd9 xK5
    clear hy eL0 eA0 eD0 et0 nL0 nA0 nD0 nt0 st0 sD0 sA0 sL0 hdK3
    refine s_lam tK5 fun H1 e1 t1 => l_met ?_
    walk_at "s"
    have bk6 := bk5.ext e1
    obtain ⟨dx1, fs1, i1, lk1⟩ := bk6.ins
    refine ⟨KindAt.ext e1 kd, a, dx1, fs1, rfl, i1, a, b, y, rfl, bk6, Or.inr ⟨KindAt.ext e1 kd, Or.inr (Or.inl ⟨rfl, fun M1 m1 => ?_⟩)⟩⟩
    walk_at "s"
    refine l_newL (xs := [V.str "operation"]) (by show 1 ≤ sizeLine; decide) fun L GL nL sL eL => ?_
    walk_at "s"
    have x1 := e1.trans (ext_of (m1.trans sL))
    have r1 := (t1.ext m1).ext sL
    have noL := noH_of (e1.trans (ext_of m1)) nL
    refine ⟨.ref L, rfl, Or.inl ⟨rfl, _, SqL.of eL⟩, ?_⟩
    walk_at "s"
    refine s_lam r1 fun H2 e2 t2 => l_met ?_
    walk_at "s"
    have bk8 := (bk5.ext x1).ext e2
    obtain ⟨dx2, fs2, i2, lk2⟩ := bk8.ins
    refine l_ownM i2 (lk2 _ (by decide) (by decide)) ?_
    walk_at "s"
    refine ⟨a, b, y, rfl, bk8, Or.inr ⟨KindAt.ext e2 (KindAt.ext x1 kd), Or.inl ⟨rfl, fun M2 m2 => ?_⟩⟩⟩
    have el2 := m2 _ _ (e2 _ _ eL (fun _ z => by cases z))
    walk_at "s"
    refine ⟨L, _, _, rfl, rfl, el2, by simp only [List.length_append, List.length_cons, List.length_nil, sizeLine_eq]; omega, ?_⟩
    have x2 := ext_upd (o := .lst ([V.str "operation"] ++ [V.str "book"])) ((x1.trans e2).trans (ext_of m2)) noL
    have r2 := tabs_lst (ys := ([V.str "operation"] ++ [V.str "book"])) (t2.ext m2) el2
    have eL2 := upd_same (H := M2) (a := L) (o := .lst ([V.str "operation"] ++ [V.str "book"]))
    generalize upd M2 L (.lst ([V.str "operation"] ++ [V.str "book"])) = H3 at x2 r2 eL2 ⊢
    walk_at "s"
    have bk10 := bk5.ext x2
    obtain ⟨dx3, fs3, i3, lk3⟩ := bk10.ins
    have kd3 := KindAt.ext x2 kd
    obtain ⟨ty, hT, tyx⟩ := id kd3
    refine ⟨.type ty, tyx, T.o_Book.nf ty hT, a, dx3, fs3, rfl, i3, a, b, y, rfl, bk10.rd, Or.inr ⟨kd3, ?_⟩⟩
    walk_at "s"
    refine ⟨.type ty, tyx, T.o_Book.nf ty hT, a, dx3, fs3, rfl, i3, a, b, y, rfl, bk10.rd, Or.inr ⟨kd3, _, rfl, ?_⟩⟩
    walk_at "s"
    refine l_newL (by show 2 ≤ sizeLine; decide) fun L3 H4 nL3 s4 eL3 => ?_
    walk_at "s"
    refine l_cat (s4 _ _ eL2) eL3 (by show 4 ≤ sizeLine; decide) fun L4 H5 nL4 s5 eL4 => ?_
    walk_at "s"
    refine l_newL (by show 4 ≤ sizeLine; decide) fun L5 H6 nL5 s6 eL5 => ?_
    have dpl : ∀ {J : Hp} {l : Addr}, J l = some (.lst [V.str "operation", V.str "book", V.bl false, V.bl true]) → Dp K J (.ref l) (.list [.str "operation", .str "book", .bool false, .bool true]) := fun e => .lst (SqL.of e) (.cons (.str _) (.cons (.str _) (.cons (.bl _) (.cons (.bl _) .nil))))
    refine l_neD (dpl (s6 _ _ eL4)) (dpl eL5) (by decide +kernel) (by decide +kernel) ?_
    have eqt : PyData.eqv (.list [.str "operation", .str "book", .bool false, .bool true]) (.list [.str "operation", .str "book", .bool false, .bool true]) = true := by decide +kernel
    rw [eqt]
    refine l_bl (i_f rfl ?_)
    walk_at "s"
    have e6 := x2.trans (ext_of ((s4.trans s5).trans s6))
    have x6 : Ex d G9 H6 := xK5.trans (Ex.ext xK5.1 e6)
    have t6 := ((r2.ext s4).ext s5).ext s6
    clear e6 eL5 nL5 eL4 nL4 eL3 nL3 tyx hT kd3 i3 lk3 bk10 eL2 el2 bk8 i2 lk2 noL eL nL bk6 i1 lk1
    have pk6 := pairs_ex hd9 x6 pk9
    have bk6 := bk9.ex hd9 x6
    have hd6 := x6.1
    refine ⟨d, p, b, rfl, hd6, pk6, raw, fun q G7 c rawc pq dc7 => ?_⟩
    walk_at "s"
    refine ⟨rfl, ?_⟩
    walk_at "s"
    obtain ⟨kq, ekq, rowsq⟩ := id pq
    refine ⟨_, q, kq, c, rfl, ekq, rowsq, rawc, fun a2 G8 na2 s8 bk2 fr => ?_⟩
    walk_at "s"
    have x7 : Ex d G9 G7 := x6.trans (Ex.dc dc7)
    have x8 : Ex d G9 G8 := x7.trans (Ex.same dc7.dice s8)
    have t8 := (tabs_dc hd6 dc7.keep t6).ext s8
    have bkS := bk9.ex hd9 x8
    rw [← sb] at bkS
    refine ⟨d, a, a2, p, q, b, c, rfl, bkS, bk2, pairs_ex hd9 x8 pk9, pairs_same s8 pq, raw, rawc, t8, fun M9 e9 t9 => l_bl (i_f rfl ?_)⟩
    walk_at "s"
    have xM9 : Ex d G9 M9 := x8.trans (Ex.ext x8.1 e9)
    clear x6 t6 bk6 pk6 hd6 e9 t8 bkS bk2 s8 na2 fr x8 x7 dc7 pq ekq rowsq
    have hdM9 := xM9.1
    have pkM9 := pairs_ex hd9 xM9 pk9
    obtain ⟨kv2, ekv2, rkv2⟩ := id pkM9
    refine l_listK (Or.inl ekv2) fun q2 M10 nq2 sq2 eq2 => ?_
    walk_at "s"
    rw [keys_str rkv2] at eq2
    refine ⟨d, q2, _, rfl, hdM9.same sq2, SqL.of eq2, fun z => (hdM9.ne nq2) z.symm, by rw [List.length_map, List.length_map]; omega, by rw [List.length_map, List.length_map]; omega, fun x M11 hx dc11 => ?_⟩
    obtain ⟨s', hs', rfl⟩ := List.mem_map.mp hx
    obtain ⟨e, he, rfl⟩ := List.mem_map.mp hs'
    have x11 : Ex d G9 M11 := (xM9.trans (Ex.same hdM9 sq2)).trans (Ex.dc dc11)
    have t11 := tabs_dc (hdM9.same sq2) dc11.keep (t9.ext sq2)
    clear eq2 nq2 sq2 dc11 t9 hx hs' ekv2 rkv2 pkM9 xM9 hdM9
    have pk11 := pairs_ex hd9 x11 pk9
    obtain ⟨kv3, ekv3, rkv3⟩ := id pk11
    walk_at "s"
    have lk3 := rkv3.len
    refine l_lcKp (fun od R r => s_var rfl r) ekv3 (fun x => !decide (x = V.str e.1)) (PairT (PvB b)) (pairT_bears (pvB_bears b)) (by omega) (fun od k hk J sJ R r => ?_) (fun od k hk _ J sJ R r => ?_) (fun D J ws nD sJ en eD => ?_)
    · obtain ⟨z, hz, rfl⟩ := key_of rkv3 hk
      walk_at "s"
      exact r J (Same.refl J)
    · obtain ⟨z, hz, rfl⟩ := key_of rkv3 hk
      obtain ⟨v, ev, pv⟩ := rkv3.find raw.nd hz
      walk_at "s"
      refine ⟨p, v, rfl, ?_, ?_⟩
      · rw [← ev]
        exact rows_get (b := b) (rd_same sJ (rd_lock ekv3 (Or.inl ekv3)))
      walk_at "s"
      refine l_newT (by show 2 ≤ sizeLine; decide) fun tt G2 ntt stt ett => ?_
      refine r (.ref tt) G2 stt ⟨tt, z.1, v, rfl, rfl, ett, fun e' he' ee => ?_⟩
      rw [pb_one raw.nd he' hz ee]
      exact pairV_bears.same _ _ _ stt (pairV_bears.same _ _ _ sJ (pairV_bears.set _ _ _ _ _ ekv3 (fun _ z => by cases z) pv))
    rw [keys_str rkv3, List.filter_map] at en
    have en' : Paired (fun x w => PairT (PvB b) x J w) (((lessB b e.1).map (·.1)).map V.str) ws := by
      rw [less_fst]
      exact en
    obtain ⟨ps, kvl, rfl, h2, h3⟩ := pairs_list K en'
    walk_at "s"
    refine l_dictP (SqL.of eD) h2 fun kl M12 nkl skl ekl => ?_
    have rowsL : RowsAt J kvl (lessB b e.1) := rows_of_list raw.nd (fun _ z => less_sub z) h3
    have nkl' : (kvl.map (·.1)).Nodup := by
      have nl : ((lessB b e.1).map (·.1)).Nodup := by
        rw [less_fst]
        exact raw.nd.sublist List.filter_sublist
      rw [rowsL.keys]
      exact List.pairwise_map.mpr (List.Pairwise.imp (fun n e => n (Sum.inr.inj e)) nl)
    rw [merge_nil nkl'] at ekl
    walk_at "s"
    have s1112 := sJ.trans skl
    refine s_lam (t11.ext s1112) fun M13 e13 t13 => l_met ?_
    walk_at "s"
    have x13 : Ex d G9 M13 := (x11.trans (Ex.same x11.1 s1112)).trans (Ex.ext (x11.1.same s1112) e13)
    have bk13 := bk9.ex hd9 x13
    obtain ⟨dx4, fs4, i4, lk4⟩ := bk13.ins
    have ekl13 := e13 _ _ ekl (fun _ z => by cases z)
    have rows13 := rows_ext e13 (rowsL.same skl)
    have prL : ∀ x ∈ lessB b e.1, GoodP x.2.1 x.2.2 := fun x hx => raw.pr x (less_sub hx)
    refine l_ownM i4 (lk4 _ (by decide) (by decide)) ?_
    walk_at "s"
    refine ⟨a, b, .str e.1, rfl, bk13, Or.inl ⟨_, rfl⟩, Or.inl ⟨e, he, rfl, fun one => Or.inr (Or.inl ⟨rfl, fun M14 s14 => ?_⟩), fun more a' M14 na' s14 bk' => ?_⟩⟩
    · walk_at "s"
      refine l_dnew fun D2 M15 nD2 s15 eD2 => ?_
      have nil : lessB b e.1 = [] := by
        match b, one, he with
        | [y], _, h =>
          rw [List.mem_singleton.mp h]
          unfold lessB
          rw [List.filter_cons_of_neg (by simp)]
          rfl
      have s1315 := s14.trans s15
      refine ⟨kl, D2, kvl, [], rowsD (lessB b e.1), [], rfl, rfl, Or.inl (s1315 _ _ ekl13), Or.inl eD2, rows_holds (rows13.same s1315) prL, .nil, ?_⟩
      rw [nil]
      refine l_bl (i_t (by decide +kernel) ?_)
      walk_at "s"
      rw [decide_eq_true rfl]
      exact k _ ((x9.trans x13).trans (Ex.same x13.1 s1315)) (t13.ext s1315)
    · walk_at "s"
      refine l_dnew fun D2 M15 nD2 s15 eD2 => ?_
      have s1315 := s14.trans s15
      have gl : GoodB (lessB b e.1) := less_good g0 more (List.mem_map_of_mem he)
      refine ⟨kl, D2, kvl, [], rowsD (lessB b e.1), [], rfl, rfl, Or.inl (s1315 _ _ ekl13), Or.inl eD2, rows_holds (rows13.same s1315) prL, .nil, ?_⟩
      have ne : eqD (rowsD (lessB b e.1)) [] = false := by
        have n1 := gl.raw.n1
        unfold eqD
        have l : (rowsD (lessB b e.1)).length = (lessB b e.1).length := List.length_map _
        have l0 : ((rowsD (lessB b e.1)).length == ([] : List (Key × PyData)).length) = false := by
          rw [l, beq_eq_false_iff_ne]
          show (lessB b e.1).length ≠ 0
          omega
        rw [l0]
        rfl
      rw [ne]
      refine l_bl (i_f rfl ?_)
      walk_at "s"
      have bkl := bk'.same s15
      rw [← gl.sorted] at bkl
      refine ⟨a', kl, lessB b e.1, rfl, bkl, ⟨kvl, s1315 _ _ ekl13, rows13.same s1315⟩, gl.raw, fun M16 s16 => l_bl (i_t rfl ?_)⟩
      walk_at "s"
      have s1316 := s1315.trans s16
      have x16 : Ex d G9 M16 := x13.trans (Ex.same x13.1 s1316)
      have bk16 := bk9.ex hd9 x16
      rw [← sb] at bk16
      refine ⟨a, p, b, rfl, bk16, pairs_ex hd9 x16 pk9, raw, fun M17 s17 => ?_⟩
      exact k _ ((x9.trans x16).trans (Ex.same x16.1 s17)) ((t13.ext s1316).ext s17)
end
section
variable {w : World} {K : PySem.W.Frag} {mg : Str → Option Value} {base : Heap}
def sp_lawT (T : Txt K mg) : Sp := fun vs H Q _ => ∃ (a : Addr) (ns : List Int), vs = [.ref a] ∧ SqL K H a (ns.map V.int) ∧ ns.length ≤ 63 ∧ LamX.Tabs T.tabs H ∧ ∀ G, Q (.bl true) G
theorem want_lawT (T : Txt K mg) {H : Hp} {a : Addr} {ns : List Int} (hl : ns.length ≤ 63) (ht : ∀ p ∈ T.cot, H p.2 = some (.tbl #[])) (hs : SqL K H a (ns.map V.int)) : sp_lawT T [.ref a] H (fun v _ => v = .bl true) fun _ _ _ => False := by
  refine ⟨a, ns, rfl, hs, hl, fun p hp => ?_, fun _ => rfl⟩
  unfold Txt.tabs at hp
  simp only [List.mem_cons, List.not_mem_nil, or_false] at hp
  rcases hp with rfl | rfl | rfl
  · exact LamX.TabS.nil (ht (T.co__law_stranger, T.tb__law_stranger) (by unfold Txt.cot; simp))
  · exact LamX.TabS.nil (ht (T.co__law_both_right, T.tb__law_both_right) (by unfold Txt.cot; simp))
  · exact LamX.TabS.nil (ht (T.co__law_right, T.tb__law_right) (by unfold Txt.cot; simp))
end
section
variable {w : World} {K : PySem.W.Frag} {mg : Str → Option Value} {base : Heap}
theorem s_disp {trs : List (TE × TE)} {σ : L2.St} {H : Hp} {Q : VK} (q : ∀ p G, H p = none → Same H G → G p = some (.dK []) → tPairs trs σ G fun ps H2 => H2 p = some (.dK []) ∧ ∃ kvs : List (Key × V), ps = kvs.map (fun kv => (kV kv.1, kv.2)) ∧ kvs.length ≤ 15 ∧ Q (.ref p) (upd H2 p (.dK (mergeK [] kvs)))) : tDisp trs σ H Q := fun p n => q p _ n (same0 n) upd_same
theorem s_pairs {tk tv : TE} {rs : List (TE × TE)} {σ : L2.St} {H : Hp} {Q : List (V × V) → Hp → Prop} (q : tk σ H fun k H1 => tv σ H1 fun v H2 => tPairs rs σ H2 fun ps H3 => Q ((k, v) :: ps) H3) : tPairs ((tk, tv) :: rs) σ H Q := q
theorem s_pairs0 {σ : L2.St} {H : Hp} {Q : List (V × V) → Hp → Prop} (q : Q [] H) : tPairs [] σ H Q := q
theorem script_ex {H0 H1 G : Hp} {a d : Addr} {xs : List V} (h : SqL K H0 a xs) (n : H0 d = none) (s : Same H0 H1) (x : Ex d H1 G) : SqL K G a xs := by
  rcases h with h | h
  · refine sql_ex (fun z => ?_) x (s.seq (show SqL K H0 a xs from Or.inl h))
    rcases h with h | ⟨o, h⟩
    · rw [z, n] at h
      cases h
    · rw [z, n] at h
      cases h
  · exact Or.inr h
theorem ok_law (T : Txt K mg) (TB : ∀ p ∈ T.cot, LamX.TabB base mg p.1 p.2) : FnG prog0 w K mg base CX0 24 T.a_law T.d_law ["script"] (sp_lawT T) := by
  have TB1 : LamX.TabB base mg T.co__law_stranger T.tb__law_stranger := TB (T.co__law_stranger, T.tb__law_stranger) (by unfold Txt.cot; simp)
  have TB2 : LamX.TabB base mg T.co__law_both_right T.tb__law_both_right := TB (T.co__law_both_right, T.tb__law_both_right) (by unfold Txt.cot; simp)
  have TB3 : LamX.TabB base mg T.co__law_right T.tb__law_right := TB (T.co__law_right, T.tb__law_right) (by unfold Txt.cot; simp)
  have G_Book___eq__ : FnG prog0 w K mg base CX0 3 T.a_Book___eq__ T.d_Book___eq__ ["self", "other"] (sp_eq T) := ok_Book___eq__ T
  have G_Book_of : FnG prog0 w K mg base CX0 11 T.a_Book_of T.d_Book_of ["cls", "commands"] (sp_of T) := ok_Book_of T
  have GK_Book_look_a_zzzzzzzz : FnKW prog0 w K mg base CX0 6 T.a_Book___init__ ["look", "a", "zzzzzzzz"] (sp_init T) := gk_laz T
  have GK_Book_a : FnKW prog0 w K mg base CX0 6 T.a_Book___init__ ["a"] (sp_init T) := gk_a T
  have G__law_dice : FnG prog0 w K mg base CX0 1 T.a__law_dice T.d__law_dice ["script", "at"] (sp__law_dice K) := ok__law_dice T
  have G__law_roll : FnG prog0 w K mg base CX0 1 T.a__law_roll T.d__law_roll ["dice", "total"] sp__law_roll := ok__law_roll T
  have G__law_names : FnG prog0 w K mg base CX0 4 T.a__law_names T.d__law_names ["dice", "size"] sp__law_names := ok__law_names T
  have G__law_is_right : FnG prog0 w K mg base CX0 7 T.a__law_is_right T.d__law_is_right ["book", "pairs"] (sp_is_right T) := ok__law_is_right T
  have G__law_right : FnG prog0 w K mg base CX0 22 T.a__law_right T.d__law_right ["dice"] (sp_right T) := ok__law_right T TB1 TB2 TB3
  have HP := @PassesOwn.never
  refine okG T.F_law sc_law (fun vs H Q E h => ?_) (fun cdv A fs s H vs Q E hr h => ?_)
  · obtain ⟨a, ns, rfl, _⟩ := h
    rfl
  obtain ⟨a, ns, rfl, hS, hl, tabs, k⟩ := h
  have nd := sc_law.nd
  refine ⟨_, ((pss_cons (ps_for HP rfl (pi_range1 rfl T.z_range (pa_cons (pe_callB (c_max2 rfl) (by rfl) T.z_max (by decide +kernel) (pa_cons pe_int (pa_cons (pe_callB (c_min2 rfl) (by rfl) T.z_min (by decide +kernel) (pa_cons pe_int (pa_cons (pe_callB c_len (by rfl) T.z_len (by decide +kernel) (pa_cons (pv 0) pa_nil)) pa_nil))) pa_nil))) pa_nil)) (pg_name (i := 1) nd rfl (Or.inl rfl)) (pss_cons (ps_set (i := 2) nd rfl (Or.inl rfl) (pe_callG G__law_dice (hr.down (by decide)) rfl T.m__law_dice T.F__law_dice.kp T.b__law_dice .nil pass0 (pa_cons (pv 0) (pa_cons (pv 1) pa_nil))))
  (pss_cons (ps_for HP rfl (pi_range1 rfl T.z_range (pa_cons pe_int pa_nil)) (pg_name (i := 3) nd rfl (Or.inl rfl)) (pss_one (ps_if (pt_not (pt_val (pe_callG G__law_right (hr.down (by decide)) rfl T.m__law_right T.F__law_right.kp T.b__law_right .nil pass0 (pa_cons (pv 2) pa_nil)))) (pss_one (ps_ret pe_bl)) pss_nil)))
  (pss_cons (ps_set (i := 4) nd rfl (Or.inl rfl) (pe_callTy c_tuple (by rfl) T.z_tuple (by decide +kernel) (pa_cons (pe_callB cr_sortedS (by rfl) T.z_sorted (by decide +kernel) (pa_cons (pe_callG G__law_names (hr.down (by decide)) rfl T.m__law_names T.F__law_names.kp T.b__law_names .nil pass0 (pa_cons (pv 2) (pa_cons (pe_op op_add pe_int (pe_callG G__law_roll (hr.down (by decide)) rfl T.m__law_roll T.F__law_roll.kp T.b__law_roll .nil pass0 (pa_cons (pv 2) (pa_cons pe_int pa_nil)))) pa_nil))) pa_nil)) pa_nil)))
  (pss_cons (ps_set (i := 5) nd rfl (Or.inl rfl) (pe_callG G__law_roll (hr.down (by decide)) rfl T.m__law_roll T.F__law_roll.kp T.b__law_roll .nil pass0 (pa_cons (pv 2) (pa_cons pe_int pa_nil))))
  (pss_cons (ps_set (i := 6) nd rfl (Or.inl rfl) (pe_makeKW T.k_Book GK_Book_look_a_zzzzzzzz (hr.down (by decide)) rfl T.m_Book pass0 (pk_cons (pe_tup (pa_cons (pv 5) (pa_cons (pv 4) pa_nil))) (pk_cons (pe_tup (pa_cons (pe_op op_sub pe_int (pv 5)) (pa_cons (pe_tup (pa_cons pe_str pa_nil)) pa_nil))) (pk_cons (pe_tup (pa_cons pe_int (pa_cons (pv 4) pa_nil))) pk_nil)))))
  (pss_cons (ps_set (i := 7) nd rfl (Or.inl rfl) (pe_disp (pps_cons pe_str (pe_tup (pa_cons (pv 5) (pa_cons (pv 4) pa_nil))) (pps_cons pe_str (pe_tup (pa_cons (pe_op op_sub pe_int (pv 5)) (pa_cons (pe_tup (pa_cons pe_str pa_nil)) pa_nil))) (pps_cons pe_str (pe_tup (pa_cons pe_int (pa_cons (pv 4) pa_nil))) pps_nil))) (by rfl) (by rfl) (fun z => by cases z) (by decide)))
  (pss_cons (ps_if (PW.pt (pw_or (pt_not (pt_val (pe_callG G__law_is_right (hr.down (by decide)) rfl T.m__law_is_right T.F__law_is_right.kp T.b__law_is_right .nil pass0 (pa_cons (pv 6) (pa_cons (pv 7) pa_nil))))) (pw_or1 (pt_cmpR (op_ownNe T.N_Book T.D_Book___eq__ G_Book___eq__ (hr.down (by decide)) T.b_Book___eq__ pass0) (pv 6) (pe_clsG (pe_glob (v := .ref T.c_Book) rfl T.m_Book rfl) T.o_Book.rd T.P_Book_of G_Book_of (hr.down (by decide)) T.b_Book_of pass0 (pa_cons (pv 7) pa_nil)) (nomark _))))) (pss_one (ps_ret pe_bl)) pss_nil)
  (pss_one (ps_if (pt_cmpR (op_ownEq T.D_Book___eq__ G_Book___eq__ (hr.down (by decide)) T.b_Book___eq__ pass0) (pe_makeKW T.k_Book GK_Book_a (hr.down (by decide)) rfl T.m_Book pass0 (pk_cons (pe_tup (pa_cons pe_int (pa_cons (pe_tup (pa_cons pe_str pa_nil)) pa_nil))) pk_nil)) (pe_makeKW T.k_Book GK_Book_a (hr.down (by decide)) rfl T.m_Book pass0 (pk_cons (pe_tup (pa_cons pe_int (pa_cons (pe_tup (pa_cons pe_str pa_nil)) pa_nil))) pk_nil)) (nomark _)) (pss_one (ps_ret pe_bl)) pss_nil))))))))))
  (pss_one (ps_ret (pe_callG G__law_is_right (hr.down (by decide)) rfl T.m__law_is_right T.F__law_is_right.kp T.b__law_is_right .nil pass0 (pa_cons (pe_clsG (pe_glob (v := .ref T.c_Book) rfl T.m_Book rfl) T.o_Book.rd T.P_Book_of G_Book_of (hr.down (by decide)) T.b_Book_of pass0 (pa_cons (pe_disp (pps_cons pe_str (pe_tup (pa_cons pe_int (pa_cons (pe_tup (pa_cons pe_str (pa_cons pe_str pa_nil))) pa_nil))) pps_nil) (by rfl) (by rfl) (fun z => by cases z) (by decide)) pa_nil)) (pa_cons (pe_disp (pps_cons pe_str (pe_tup (pa_cons pe_int (pa_cons (pe_tup (pa_cons pe_str (pa_cons pe_str pa_nil))) pa_nil))) pps_nil) (by rfl) (by rfl) (fun z => by cases z) (by decide)) pa_nil))))))), ?_⟩
  walk_at "s"
  refine l_forR (by repeat' split <;> omega) (by rw [List.length_map]; repeat' split <;> omega) (fun i τ G => ∃ z1 z2 z3 z4 z5 z6 z7 : Option V, τ = [some (.ref a), z1, z2, z3, z4, z5, z6, z7] ∧ SqL K G a (ns.map V.int) ∧ LamX.Tabs T.tabs G) ⟨none, none, none, none, none, none, none, rfl, hS, tabs⟩ (fun i τ G hi m => ?_) (fun τ G m => ?_)
  · obtain ⟨z1, z2, z3, z4, z5, z6, z7, rfl, hSG, tG⟩ := m
    walk_at "s"
    refine ⟨a, ns, (i : Int), rfl, hSG, by omega, fun d G0 nd0 s0 hd => ?_⟩
    walk_at "s"
    refine l_forR (n := 2) (by decide) (by decide) (fun i τ J => ∃ z3 : Option V, τ = [some (.ref a), some (.int (Int.ofNat _)), some (.ref d), z3, z4, z5, z6, z7] ∧ Ex d G0 J ∧ LamX.Tabs T.tabs J) ⟨z3, rfl, Ex.refl hd, tG.ext s0⟩ (fun i2 τ J hi m => ?_) (fun τ J m => ?_)
    · obtain ⟨z3, rfl, xJ, tJ⟩ := m
      walk_at "s"
      refine ⟨d, rfl, xJ.1, tJ, fun J2 x2 t2 => l_bl (i_f rfl ?_)⟩
      exact ⟨_, rfl, xJ.trans x2, t2⟩
    · obtain ⟨z3, rfl, xJ, tJ⟩ := m
      walk_at "s"
      refine ⟨d, 3, rfl, xJ.1, by decide, by decide, fun r0 J1 r00 r01 dc1 => ?_⟩
      walk_at "s"
      obtain ⟨n, hn⟩ : ∃ n : Nat, (1 + r0 : Int) = n := Int.eq_ofNat_of_zero_le (by omega)
      rw [hn]
      have xJ1 := xJ.trans (Ex.dc dc1)
      have tJ1 := tabs_dc xJ.1 dc1.keep tJ
      refine ⟨d, n, rfl, dc1.dice, by omega, fun p1 J2 names l1 ok1 nd1 np1 ep1 dc2 => ?_⟩
      walk_at "s"
      have ne1 : p1 ≠ d := fun e => (dc1.dice.ne np1) e.symm
      refine l_sortL (SqL.of ep1) (by omega) fun q J3 nq sq eq => ?_
      walk_at "s"
      refine l_tupL (SqL.of eq) fun an J4 na sa ea => ?_
      walk_at "s"
      have xJ2 := xJ1.trans (Ex.dc dc2)
      have tJ2 := tabs_dc dc1.dice dc2.keep tJ1
      have s24 := sq.trans sa
      have hd4 := dc2.dice.same s24
      refine ⟨d, 3, rfl, hd4, by decide, by decide, fun r1 J5 r10 r11 dc5 => ?_⟩
      walk_at "s"
      obtain ⟨tk, rfl⟩ : ∃ tk : Nat, r1 = tk := Int.eq_ofNat_of_zero_le r10
      have xJ5 := (xJ2.trans (Ex.same xJ2.1 s24)).trans (Ex.dc dc5)
      have tJ5 := tabs_dc hd4 dc5.keep (tJ2.ext s24)
      have ea5 := (Ex.dc dc5).at hd4 ea (fun _ z => by cases z) (fun _ z => by cases z)
      have gp : ∀ t : Nat, t ≤ 2 → GoodP t (sortS names) := fun t ht => by
        refine ⟨ht, sortS_asc nd1, ?_, ?_, fun s hs => ?_⟩
        · rw [(sortS_perm _).length_eq]
          omega
        · rw [(sortS_perm _).length_eq]
          omega
        · have h := ok1 s ((sortS_perm _).mem_iff.mp hs)
          exact answer_of h.1 h.2
      clear eq ea ep1
      generalize hB : sortS names = as at gp ea5
      have gok : ∀ t : Nat, t ≤ 2 → GoodP t ["ok"] := fun t ht => ⟨ht, List.pairwise_singleton _ _, by decide, by decide, fun s hs => by
        obtain rfl := List.mem_singleton.mp hs
        decide +kernel⟩
      have raw : RawB [("look", tk, as), ("a", 2 - tk, ["ok"]), ("zzzzzzzz", 1, as)] := by
        refine ⟨by show ([("look" : Str), "a", "zzzzzzzz"]).Nodup; decide +kernel, fun x hx => ?_, fun x hx => ?_, by show 1 ≤ 3; decide, by show 3 ≤ 6; decide⟩
        · simp only [List.mem_cons, List.not_mem_nil, or_false] at hx
          rcases hx with rfl | rfl | rfl
          · show answerB1 ("look" : Str) = true
            decide +kernel
          · show answerB1 ("a" : Str) = true
            decide +kernel
          · show answerB1 ("zzzzzzzz" : Str) = true
            decide +kernel
        · simp only [List.mem_cons, List.not_mem_nil, or_false] at hx
          rcases hx with rfl | rfl | rfl
          · exact gp tk (by omega)
          · exact gok (2 - tk) (by omega)
          · exact gp 1 (by decide)
      have e2 : (2 - (tk : Int)) = ((2 - tk : Nat) : Int) := by omega
      refine l_newT (by show 2 ≤ sizeLine; decide) fun t1 J6 nt1 s6 et1 => ?_
      walk_at "s"
      rw [e2]
      refine l_newT (by show 1 ≤ sizeLine; decide) fun t2 J7 nt2 s7 et2 => ?_
      walk_at "s"
      refine l_newT (by show 2 ≤ sizeLine; decide) fun t3 J8 nt3 s8 et3 => ?_
      walk_at "s"
      refine l_newT (by show 2 ≤ sizeLine; decide) fun t4 J9 nt4 s9 et4 => ?_
      walk_at "s"
      have s59 := ((s6.trans s7).trans s8).trans s9
      have rows9 : RowsAt J9 (kwV ["look", "a", "zzzzzzzz"] [.ref t1, .ref t3, .ref t4]) [("look", tk, as), ("a", 2 - tk, ["ok"]), ("zzzzzzzz", 1, as)] :=
        .cons ⟨rfl, t1, an, rfl, ((s7.trans s8).trans s9) _ _ et1, s59 _ _ ea5⟩ (.cons ⟨rfl, t3, t2, rfl, s9 _ _ et3, (s8.trans s9) _ _ et2⟩ (.cons ⟨rfl, t4, an, rfl, et4, s59 _ _ ea5⟩ .nil))
      refine l_makeBook rfl rows9 raw fun wb J10 nwb s10 bkw => ?_
      walk_at "s"
      refine s_disp fun du J11 ndu s11 edu => s_pairs ?_
      walk_at "s"
      refine l_newT (by show 2 ≤ sizeLine; decide) fun u1 J12 nu1 s12 eu1 => s_pairs ?_
      walk_at "s"
      rw [e2]
      refine l_newT (by show 1 ≤ sizeLine; decide) fun u2 J13 nu2 s13 eu2 => ?_
      walk_at "s"
      refine l_newT (by show 2 ≤ sizeLine; decide) fun u3 J14 nu3 s14 eu3 => s_pairs ?_
      walk_at "s"
      refine l_newT (by show 2 ≤ sizeLine; decide) fun u4 J15 nu4 s15 eu4 => s_pairs0 ?_
      have s1115 := ((s12.trans s13).trans s14).trans s15
      have edu15 := s1115 _ _ edu
      refine ⟨edu15, [(.inr "look", .ref u1), (.inr "a", .ref u3), (.inr "zzzzzzzz", .ref u4)], rfl, by show 3 ≤ 15; decide, ?_⟩
      have s515 := ((s59.trans s10).trans s11).trans s1115
      have ea15 := s515 _ _ ea5
      have rows15 : RowsAt J15 [(.inr "look", .ref u1), (.inr "a", .ref u3), (.inr "zzzzzzzz", .ref u4)] [("look", tk, as), ("a", 2 - tk, ["ok"]), ("zzzzzzzz", 1, as)] :=
        .cons ⟨rfl, u1, an, rfl, ((s13.trans s14).trans s15) _ _ eu1, ea15⟩ (.cons ⟨rfl, u3, u2, rfl, s15 _ _ eu3, (s14.trans s15) _ _ eu2⟩ (.cons ⟨rfl, u4, an, rfl, eu4, ea15⟩ .nil))
      rw [merge_nil (by show ([.inr "look", .inr "a", .inr "zzzzzzzz"] : List Key).Nodup; decide +kernel)]
      have rows16 := RowsAt.set (o' := .dK [(.inr "look", .ref u1), (.inr "a", .ref u3), (.inr "zzzzzzzz", .ref u4)]) edu15 (fun _ z => by cases z) rows15
      have edu16 := upd_same (H := J15) (a := du) (o := .dK [(.inr "look", .ref u1), (.inr "a", .ref u3), (.inr "zzzzzzzz", .ref u4)])
      have s16 : Same J10 (upd J15 du (.dK [(.inr "look", .ref u1), (.inr "a", .ref u3), (.inr "zzzzzzzz", .ref u4)])) := Same.setNew (s11.trans s1115) ndu
      generalize upd J15 du (.dK [(.inr "look", .ref u1), (.inr "a", .ref u3), (.inr "zzzzzzzz", .ref u4)]) = J16 at rows16 edu16 s16 ⊢
      have bk16 := bkw.same s16
      generalize hC : ([("look", tk, as), ("a", 2 - tk, ["ok"]), ("zzzzzzzz", 1, as)] : PB) = c at raw rows16 bk16
      generalize ([(.inr "look", .ref u1), (.inr "a", .ref u3), (.inr "zzzzzzzz", .ref u4)] : List (Key × V)) = kvd at rows16 edu16
      have xJ16 : Ex d G0 J16 := xJ5.trans (Ex.same xJ5.1 ((s59.trans s10).trans s16))
      have tJ16 := tJ5.ext ((s59.trans s10).trans s16)
      clear rows15 edu15 s515 ea15 s1115 eu1 eu2 eu3 eu4 edu rows9 et1 et2 et3 et4 bkw
      walk_at "s"
      refine ⟨wb, du, c, rfl, bk16, ⟨kvd, edu16, rows16⟩, raw, fun J17 s17 => l_bl (i_f rfl ?_)⟩
      walk_at "s"
      refine ⟨rfl, ?_⟩
      walk_at "s"
      refine ⟨_, du, kvd, c, rfl, s17 _ _ edu16, rows16.same s17, raw, fun ob J18 nob s18 bko => ?_⟩
      have bk18 := bk16.same (s17.trans s18)
      obtain ⟨dx1, fs1, i1, lk1⟩ := bk18.ins
      obtain ⟨dx2, fs2, i2, lk2⟩ := bko.ins
      refine ⟨.ref T.c_Book, T.o_Book.ty i2, T.o_Book.nfC, wb, dx1, fs1, rfl, i1, wb, sortB c, .ref ob, rfl, bk18.rd, Or.inl ⟨ob, sortB c, rfl, bko.rd, _, rfl, ?_⟩⟩
      walk_at "s"
      refine i_f (by rw [decide_eq_true rfl]; rfl) ?_
      walk_at "s"
      have rawA : ∀ t : Nat, t ≤ 2 → RawB [("a", t, ["ok"])] := fun t ht => by
        refine ⟨List.pairwise_singleton _ _, fun x hx => ?_, fun x hx => ?_, by show 1 ≤ 1; decide, by show 1 ≤ 6; decide⟩
        · obtain rfl := List.mem_singleton.mp hx
          show answerB1 ("a" : Str) = true
          decide +kernel
        · obtain rfl := List.mem_singleton.mp hx
          exact gok t ht
      refine l_newT (by show 1 ≤ sizeLine; decide) fun v1 J19 nv1 s19 ev1 => ?_
      walk_at "s"
      refine l_newT (by show 2 ≤ sizeLine; decide) fun v2 J20 nv2 s20 ev2 => ?_
      walk_at "s"
      refine l_makeBook (b := [("a", 0, ["ok"])]) rfl (.cons ⟨rfl, v2, v1, rfl, ev2, s20 _ _ ev1⟩ .nil) (rawA 0 (by decide)) fun ba J21 nba s21 bka => ?_
      walk_at "s"
      refine l_newT (by show 1 ≤ sizeLine; decide) fun v3 J22 nv3 s22 ev3 => ?_
      walk_at "s"
      refine l_newT (by show 2 ≤ sizeLine; decide) fun v4 J23 nv4 s23 ev4 => ?_
      walk_at "s"
      refine l_makeBook (b := [("a", 1, ["ok"])]) rfl (.cons ⟨rfl, v4, v3, rfl, ev4, s23 _ _ ev3⟩ .nil) (rawA 1 (by decide)) fun bb J24 nbb s24b bkb => ?_
      have bka4 := bka.same ((s22.trans s23).trans s24b)
      obtain ⟨dx3, fs3, i3, lk3⟩ := bka4.ins
      obtain ⟨dx4, fs4, i4, lk4⟩ := bkb.ins
      refine ⟨.ref T.c_Book, T.o_Book.ty i4, T.o_Book.nfC, ba, dx3, fs3, rfl, i3, ba, _, .ref bb, rfl, bka4.rd, Or.inl ⟨bb, _, rfl, bkb.rd, ?_⟩⟩
      have dif : decide (sortB [("a", 0, ["ok"])] = sortB [("a", 1, ["ok"])]) = false := by decide +kernel
      refine ⟨_, rfl, i_f dif ?_⟩
      have s1624 := (((((((s17.trans s18).trans s19).trans s20).trans s21).trans s22).trans s23).trans s24b)
      have xE : Ex d G0 J24 := xJ16.trans (Ex.same xJ16.1 s1624)
      exact ⟨_, _, _, _, _, _, _, rfl, script_ex hSG nd0 s0 xE, tJ16.ext s1624⟩
  · obtain ⟨z1, z2, z3, z4, z5, z6, z7, rfl, hSG, tG⟩ := m
    walk_at "s"
    refine ⟨rfl, ?_⟩
    walk_at "s"
    have rawS : RawB [("self", 1, ["no", "yes"])] := by
      refine ⟨List.pairwise_singleton _ _, fun x hx => ?_, fun x hx => ?_, by show 1 ≤ 1; decide, by show 1 ≤ 6; decide⟩
      · obtain rfl := List.mem_singleton.mp hx
        decide +kernel
      · obtain rfl := List.mem_singleton.mp hx
        refine ⟨by decide, ?_, by decide, by decide, fun s hs => ?_⟩
        · refine List.pairwise_pair.mpr ?_
          show ltCps _ _ = true
          decide +kernel
        · simp only [List.mem_cons, List.not_mem_nil, or_false] at hs
          rcases hs with rfl | rfl
          · decide +kernel
          · decide +kernel
    refine s_disp fun du J1 ndu s1 edu => s_pairs ?_
    walk_at "s"
    refine l_newT (by show 2 ≤ sizeLine; decide) fun u1 J2 nu1 s2 eu1 => ?_
    walk_at "s"
    refine l_newT (by show 2 ≤ sizeLine; decide) fun u2 J3 nu2 s3 eu2 => s_pairs0 ?_
    have edu3 := (s2.trans s3) _ _ edu
    refine ⟨edu3, [(.inr "self", .ref u2)], rfl, by show 1 ≤ 15; decide, ?_⟩
    rw [merge_nil (kvs := [(.inr "self", .ref u2)]) (List.pairwise_singleton _ _)]
    have rows3 : RowsAt J3 [(.inr "self", .ref u2)] [("self", 1, ["no", "yes"])] := .cons ⟨rfl, u2, u1, rfl, eu2, s3 _ _ eu1⟩ .nil
    have rows4 := RowsAt.set (o' := .dK [(.inr "self", .ref u2)]) edu3 (fun _ z => by cases z) rows3
    walk_at "s"
    refine ⟨_, du, _, _, rfl, upd_same, rows4, rawS, fun ob J5 nob s5 bko => ?_⟩
    walk_at "s"
    refine s_disp fun dv J6 ndv s6 edv => s_pairs ?_
    walk_at "s"
    refine l_newT (by show 2 ≤ sizeLine; decide) fun u3 J7 nu3 s7 eu3 => ?_
    walk_at "s"
    refine l_newT (by show 2 ≤ sizeLine; decide) fun u4 J8 nu4 s8 eu4 => s_pairs0 ?_
    have edv8 := (s7.trans s8) _ _ edv
    refine ⟨edv8, [(.inr "self", .ref u4)], rfl, by show 1 ≤ 15; decide, ?_⟩
    rw [merge_nil (kvs := [(.inr "self", .ref u4)]) (List.pairwise_singleton _ _)]
    have rows8 : RowsAt J8 [(.inr "self", .ref u4)] [("self", 1, ["no", "yes"])] := .cons ⟨rfl, u4, u3, rfl, eu4, s8 _ _ eu3⟩ .nil
    have rows9 := RowsAt.set (o' := .dK [(.inr "self", .ref u4)]) edv8 (fun _ z => by cases z) rows8
    walk_at "s"
    have s58 : Same J5 (upd J8 dv (.dK [(.inr "self", .ref u4)])) := Same.setNew ((s6.trans s7).trans s8) ndv
    exact ⟨ob, dv, _, rfl, bko.same s58, ⟨_, upd_same, rows9⟩, rawS, fun J10 s10 => k J10⟩
end
set_option maxHeartbeats 4000000 in
theorem all_mk {w : World} {K : PySem.W.Frag} {h : Heap} {mg : Str → Option Value} {fa : Addr} (X : K.In h) (G : h.Ns mainGlobals mg) (hfa : mg "law" = some (.ref fa))
    {f0 : Addr} {od0 an0 : Option Addr} {sl0 : Array (Option Value)} {oc0 kV0 dc0 pm0 cd0 ct0 : Value}
    {f1 : Addr} {od1 an1 : Option Addr} {sl1 : Array (Option Value)} {oc1 kV1 dc1 pm1 cd1 ct1 : Value}
    {f2 : Addr} {od2 an2 : Option Addr} {sl2 : Array (Option Value)} {oc2 kV2 dc2 pm2 cd2 ct2 : Value}
    {f3 : Addr} {od3 an3 : Option Addr} {sl3 : Array (Option Value)} {oc3 kV3 dc3 pm3 cd3 ct3 : Value}
    {f4 : Addr} {od4 an4 : Option Addr} {sl4 : Array (Option Value)} {oc4 kV4 dc4 pm4 cd4 ct4 : Value}
    {f5 : Addr} {od5 an5 : Option Addr} {sl5 : Array (Option Value)} {oc5 kV5 dc5 pm5 cd5 ct5 : Value}
    {f6 : Addr} {od6 an6 : Option Addr} {sl6 : Array (Option Value)} {oc6 kV6 dc6 pm6 cd6 ct6 : Value}
    {f7 : Addr} {od7 an7 : Option Addr} {sl7 : Array (Option Value)} {oc7 kV7 dc7 pm7 cd7 ct7 : Value}
    {f8 : Addr} {od8 an8 : Option Addr} {sl8 : Array (Option Value)} {oc8 kV8 dc8 pm8 cd8 ct8 : Value}
    {f9 : Addr} {od9 an9 : Option Addr} {sl9 : Array (Option Value)} {oc9 kV9 dc9 pm9 cd9 ct9 : Value}
    {f10 : Addr} {od10 an10 : Option Addr} {sl10 : Array (Option Value)} {oc10 kV10 dc10 pm10 cd10 ct10 : Value}
    {f11 : Addr} {od11 an11 : Option Addr} {sl11 : Array (Option Value)} {oc11 kV11 dc11 pm11 cd11 ct11 : Value}
    {f12 : Addr} {od12 an12 : Option Addr} {sl12 : Array (Option Value)} {oc12 kV12 dc12 pm12 cd12 ct12 : Value}
    {f13 : Addr} {od13 an13 : Option Addr} {sl13 : Array (Option Value)} {oc13 kV13 dc13 pm13 cd13 ct13 : Value}
    {f14 : Addr} {od14 an14 : Option Addr} {sl14 : Array (Option Value)} {oc14 kV14 dc14 pm14 cd14 ct14 : Value}
    {f15 : Addr} {od15 an15 : Option Addr} {sl15 : Array (Option Value)} {oc15 kV15 dc15 pm15 cd15 ct15 : Value}
    {f16 : Addr} {od16 an16 : Option Addr} {sl16 : Array (Option Value)} {oc16 kV16 dc16 pm16 cd16 ct16 : Value}
    {f17 : Addr} {od17 an17 : Option Addr} {sl17 : Array (Option Value)} {oc17 kV17 dc17 pm17 cd17 ct17 : Value}
    {f18 : Addr} {od18 an18 : Option Addr} {sl18 : Array (Option Value)} {oc18 kV18 dc18 pm18 cd18 ct18 : Value}
    {f19 : Addr} {od19 an19 : Option Addr} {sl19 : Array (Option Value)} {oc19 kV19 dc19 pm19 cd19 ct19 : Value}
    {f20 : Addr} {od20 an20 : Option Addr} {sl20 : Array (Option Value)} {oc20 kV20 dc20 pm20 cd20 ct20 : Value}
    {f21 : Addr} {od21 an21 : Option Addr} {sl21 : Array (Option Value)} {oc21 kV21 dc21 pm21 ct21 : Value} {co__law_stranger tb__law_stranger : Addr} {cdo__law_stranger : Option Addr} {cvs__law_stranger : Array Value} {csl__law_stranger : Array (Option Value)}
    {f22 : Addr} {od22 an22 : Option Addr} {sl22 : Array (Option Value)} {oc22 kV22 dc22 pm22 cd22 ct22 : Value}
    {f23 : Addr} {od23 an23 : Option Addr} {sl23 : Array (Option Value)} {oc23 kV23 dc23 pm23 ct23 : Value} {co__law_both_right tb__law_both_right : Addr} {cdo__law_both_right : Option Addr} {cvs__law_both_right : Array Value} {csl__law_both_right : Array (Option Value)}
    {f24 : Addr} {od24 an24 : Option Addr} {sl24 : Array (Option Value)} {oc24 kV24 dc24 pm24 ct24 : Value} {co__law_right tb__law_right : Addr} {cdo__law_right : Option Addr} {cvs__law_right : Array Value} {csl__law_right : Array (Option Value)}
    {f25 : Addr} {od25 an25 : Option Addr} {sl25 : Array (Option Value)} {oc25 kV25 dc25 pm25 cd25 ct25 : Value}
    {f26 : Addr} {od26 an26 : Option Addr} {sl26 : Array (Option Value)} {oc26 kV26 dc26 pm26 cd26 ct26 : Value}
    {K_Book : Addr}
    {f27 : Addr} {od27 an27 : Option Addr} {sl27 : Array (Option Value)} {oc27 kV27 dc27 pm27 cd27 ct27 : Value}
    {p27 : Addr} {pd27 : Option Addr} {ps27 : Array (Option Value)} {pv27 : Array Value}
    {f28 : Addr} {od28 an28 : Option Addr} {sl28 : Array (Option Value)} {oc28 kV28 dc28 pm28 cd28 ct28 : Value}
    {p28 : Addr} {pd28 : Option Addr} {ps28 : Array (Option Value)} {pv28 : Array Value}
    {f29 : Addr} {od29 an29 : Option Addr} {sl29 : Array (Option Value)} {oc29 kV29 dc29 pm29 cd29 ct29 : Value}
    {f30 : Addr} {od30 an30 : Option Addr} {sl30 : Array (Option Value)} {oc30 kV30 dc30 pm30 cd30 ct30 : Value}
    {f31 : Addr} {od31 an31 : Option Addr} {sl31 : Array (Option Value)} {oc31 kV31 dc31 pm31 cd31 ct31 : Value}
    {f32 : Addr} {od32 an32 : Option Addr} {sl32 : Array (Option Value)} {oc32 kV32 dc32 pm32 cd32 ct32 : Value}
    {f33 : Addr} {od33 an33 : Option Addr} {sl33 : Array (Option Value)} {oc33 kV33 dc33 pm33 cd33 ct33 : Value}
    {f34 : Addr} {od34 an34 : Option Addr} {sl34 : Array (Option Value)} {oc34 kV34 dc34 pm34 cd34 ct34 : Value}
    {f35 : Addr} {od35 an35 : Option Addr} {sl35 : Array (Option Value)} {oc35 kV35 dc35 pm35 cd35 ct35 : Value}
    {f36 : Addr} {od36 an36 : Option Addr} {sl36 : Array (Option Value)} {oc36 kV36 dc36 pm36 cd36 ct36 : Value}
    {f37 : Addr} {od37 an37 : Option Addr} {sl37 : Array (Option Value)} {oc37 kV37 dc37 pm37 cd37 ct37 : Value}
    {f38 : Addr} {od38 an38 : Option Addr} {sl38 : Array (Option Value)} {oc38 kV38 dc38 pm38 cd38 ct38 : Value}
    {f39 : Addr} {od39 an39 : Option Addr} {sl39 : Array (Option Value)} {oc39 kV39 dc39 pm39 cd39 ct39 : Value}
    {t_MAX_LETTERS : Tok}
    {p_RESERVED : Addr} {n_RESERVED : Nat} {sl_RESERVED : Array (Option Value)} {od_RESERVED : Option Addr} {t0_RESERVED : Tok} {t1_RESERVED : Tok} {t2_RESERVED : Tok} {t3_RESERVED : Tok}
    {t_MAX_COMMANDS : Tok}
    {t_MAX_TAKES : Tok}
    {t_MAX_ANSWERS : Tok}
    {C_AheadError : Addr}
    {C_InvalidBook : Addr}
    {C_InvalidOperation : Addr}
    {C_UnknownName : Addr}
    {I_UnknownName ca_UnknownName cc_UnknownName : Addr} {odi_UnknownName ani_UnknownName cdd_UnknownName cld_UnknownName : Option Addr} {sli_UnknownName ccs_UnknownName csl_UnknownName : Array (Option Value)} {oci_UnknownName kVi_UnknownName dci_UnknownName pmi_UnknownName cti_UnknownName ccl_UnknownName cl_UnknownName : Value} {vs_UnknownName : Array Value} {fi_UnknownName : Str} {tf_UnknownName : Tok}
    (z_super : PySem.W.nsIn K mainGlobals "super" = some none)
    (a0 : PySem.W.nsIn K mainGlobals "is_count" = some (some (.ref f0))) (l0 : K.lookup f0 = some ⟨oc0, od0, .func (PySem.W.fnOf "is_count" "is_count" (defArgs s_is_count) (defBody s_is_count) (defScope s_is_count) .none kV0 dc0 pm0 an0 cd0 ct0), sl0⟩) (c0 : PySem.W.codeIn K cd0 "is_count" = true) (k0 : PySem.W.keepIn K (.ref f0) = true)
    (a1 : PySem.W.nsIn K mainGlobals "is_name" = some (some (.ref f1))) (l1 : K.lookup f1 = some ⟨oc1, od1, .func (PySem.W.fnOf "is_name" "is_name" (defArgs s_is_name) (defBody s_is_name) (defScope s_is_name) .none kV1 dc1 pm1 an1 cd1 ct1), sl1⟩) (c1 : PySem.W.codeIn K cd1 "is_name" = true) (k1 : PySem.W.keepIn K (.ref f1) = true)
    (a2 : PySem.W.nsIn K mainGlobals "is_answer" = some (some (.ref f2))) (l2 : K.lookup f2 = some ⟨oc2, od2, .func (PySem.W.fnOf "is_answer" "is_answer" (defArgs s_is_answer) (defBody s_is_answer) (defScope s_is_answer) .none kV2 dc2 pm2 an2 cd2 ct2), sl2⟩) (c2 : PySem.W.codeIn K cd2 "is_answer" = true) (k2 : PySem.W.keepIn K (.ref f2) = true)
    (a3 : PySem.W.nsIn K mainGlobals "is_names" = some (some (.ref f3))) (l3 : K.lookup f3 = some ⟨oc3, od3, .func (PySem.W.fnOf "is_names" "is_names" (defArgs s_is_names) (defBody s_is_names) (defScope s_is_names) .none kV3 dc3 pm3 an3 cd3 ct3), sl3⟩) (c3 : PySem.W.codeIn K cd3 "is_names" = true) (k3 : PySem.W.keepIn K (.ref f3) = true)
    (a4 : PySem.W.nsIn K mainGlobals "book_with" = some (some (.ref f4))) (l4 : K.lookup f4 = some ⟨oc4, od4, .func (PySem.W.fnOf "book_with" "book_with" (defArgs s_book_with) (defBody s_book_with) (defScope s_book_with) .none kV4 dc4 pm4 an4 cd4 ct4), sl4⟩) (c4 : PySem.W.codeIn K cd4 "book_with" = true) (k4 : PySem.W.keepIn K (.ref f4) = true)
    (a5 : PySem.W.nsIn K mainGlobals "outcomes_in" = some (some (.ref f5))) (l5 : K.lookup f5 = some ⟨oc5, od5, .func (PySem.W.fnOf "outcomes_in" "outcomes_in" (defArgs s_outcomes_in) (defBody s_outcomes_in) (defScope s_outcomes_in) .none kV5 dc5 pm5 an5 cd5 ct5), sl5⟩) (c5 : PySem.W.codeIn K cd5 "outcomes_in" = true) (k5 : PySem.W.keepIn K (.ref f5) = true)
    (a6 : PySem.W.nsIn K mainGlobals "checked_pairs" = some (some (.ref f6))) (l6 : K.lookup f6 = some ⟨oc6, od6, .func (PySem.W.fnOf "checked_pairs" "checked_pairs" (defArgs s_checked_pairs) (defBody s_checked_pairs) (defScope s_checked_pairs) .none kV6 dc6 pm6 an6 cd6 ct6), sl6⟩) (c6 : PySem.W.codeIn K cd6 "checked_pairs" = true) (k6 : PySem.W.keepIn K (.ref f6) = true)
    (a7 : PySem.W.nsIn K mainGlobals "is_pair" = some (some (.ref f7))) (l7 : K.lookup f7 = some ⟨oc7, od7, .func (PySem.W.fnOf "is_pair" "is_pair" (defArgs s_is_pair) (defBody s_is_pair) (defScope s_is_pair) .none kV7 dc7 pm7 an7 cd7 ct7), sl7⟩) (c7 : PySem.W.codeIn K cd7 "is_pair" = true) (k7 : PySem.W.keepIn K (.ref f7) = true)
    (a8 : PySem.W.nsIn K mainGlobals "need_book" = some (some (.ref f8))) (l8 : K.lookup f8 = some ⟨oc8, od8, .func (PySem.W.fnOf "need_book" "need_book" (defArgs s_need_book) (defBody s_need_book) (defScope s_need_book) .none kV8 dc8 pm8 an8 cd8 ct8), sl8⟩) (c8 : PySem.W.codeIn K cd8 "need_book" = true) (k8 : PySem.W.keepIn K (.ref f8) = true)
    (a9 : PySem.W.nsIn K mainGlobals "_law_dice" = some (some (.ref f9))) (l9 : K.lookup f9 = some ⟨oc9, od9, .func (PySem.W.fnOf "_law_dice" "_law_dice" (defArgs s__law_dice) (defBody s__law_dice) (defScope s__law_dice) .none kV9 dc9 pm9 an9 cd9 ct9), sl9⟩) (c9 : PySem.W.codeIn K cd9 "_law_dice" = true) (k9 : PySem.W.keepIn K (.ref f9) = true)
    (a10 : PySem.W.nsIn K mainGlobals "_law_roll" = some (some (.ref f10))) (l10 : K.lookup f10 = some ⟨oc10, od10, .func (PySem.W.fnOf "_law_roll" "_law_roll" (defArgs s__law_roll) (defBody s__law_roll) (defScope s__law_roll) .none kV10 dc10 pm10 an10 cd10 ct10), sl10⟩) (c10 : PySem.W.codeIn K cd10 "_law_roll" = true) (k10 : PySem.W.keepIn K (.ref f10) = true)
    (a11 : PySem.W.nsIn K mainGlobals "_law_one_of" = some (some (.ref f11))) (l11 : K.lookup f11 = some ⟨oc11, od11, .func (PySem.W.fnOf "_law_one_of" "_law_one_of" (defArgs s__law_one_of) (defBody s__law_one_of) (defScope s__law_one_of) .none kV11 dc11 pm11 an11 cd11 ct11), sl11⟩) (c11 : PySem.W.codeIn K cd11 "_law_one_of" = true) (k11 : PySem.W.keepIn K (.ref f11) = true)
    (a12 : PySem.W.nsIn K mainGlobals "_law_mixed" = some (some (.ref f12))) (l12 : K.lookup f12 = some ⟨oc12, od12, .func (PySem.W.fnOf "_law_mixed" "_law_mixed" (defArgs s__law_mixed) (defBody s__law_mixed) (defScope s__law_mixed) .none kV12 dc12 pm12 an12 cd12 ct12), sl12⟩) (c12 : PySem.W.codeIn K cd12 "_law_mixed" = true) (k12 : PySem.W.keepIn K (.ref f12) = true)
    (a13 : PySem.W.nsIn K mainGlobals "_law_name" = some (some (.ref f13))) (l13 : K.lookup f13 = some ⟨oc13, od13, .func (PySem.W.fnOf "_law_name" "_law_name" (defArgs s__law_name) (defBody s__law_name) (defScope s__law_name) .none kV13 dc13 pm13 an13 cd13 ct13), sl13⟩) (c13 : PySem.W.codeIn K cd13 "_law_name" = true) (k13 : PySem.W.keepIn K (.ref f13) = true)
    (a14 : PySem.W.nsIn K mainGlobals "_law_names" = some (some (.ref f14))) (l14 : K.lookup f14 = some ⟨oc14, od14, .func (PySem.W.fnOf "_law_names" "_law_names" (defArgs s__law_names) (defBody s__law_names) (defScope s__law_names) .none kV14 dc14 pm14 an14 cd14 ct14), sl14⟩) (c14 : PySem.W.codeIn K cd14 "_law_names" = true) (k14 : PySem.W.keepIn K (.ref f14) = true)
    (a15 : PySem.W.nsIn K mainGlobals "_law_pairs" = some (some (.ref f15))) (l15 : K.lookup f15 = some ⟨oc15, od15, .func (PySem.W.fnOf "_law_pairs" "_law_pairs" (defArgs s__law_pairs) (defBody s__law_pairs) (defScope s__law_pairs) .none kV15 dc15 pm15 an15 cd15 ct15), sl15⟩) (c15 : PySem.W.codeIn K cd15 "_law_pairs" = true) (k15 : PySem.W.keepIn K (.ref f15) = true)
    (a16 : PySem.W.nsIn K mainGlobals "_law_outcomes" = some (some (.ref f16))) (l16 : K.lookup f16 = some ⟨oc16, od16, .func (PySem.W.fnOf "_law_outcomes" "_law_outcomes" (defArgs s__law_outcomes) (defBody s__law_outcomes) (defScope s__law_outcomes) .none kV16 dc16 pm16 an16 cd16 ct16), sl16⟩) (c16 : PySem.W.codeIn K cd16 "_law_outcomes" = true) (k16 : PySem.W.keepIn K (.ref f16) = true)
    (a17 : PySem.W.nsIn K mainGlobals "_law_odd" = some (some (.ref f17))) (l17 : K.lookup f17 = some ⟨oc17, od17, .func (PySem.W.fnOf "_law_odd" "_law_odd" (defArgs s__law_odd) (defBody s__law_odd) (defScope s__law_odd) .none kV17 dc17 pm17 an17 cd17 ct17), sl17⟩) (c17 : PySem.W.codeIn K cd17 "_law_odd" = true) (k17 : PySem.W.keepIn K (.ref f17) = true)
    (a18 : PySem.W.nsIn K mainGlobals "_law_met" = some (some (.ref f18))) (l18 : K.lookup f18 = some ⟨oc18, od18, .func (PySem.W.fnOf "_law_met" "_law_met" (defArgs s__law_met) (defBody s__law_met) (defScope s__law_met) .none kV18 dc18 pm18 an18 cd18 ct18), sl18⟩) (c18 : PySem.W.codeIn K cd18 "_law_met" = true) (k18 : PySem.W.keepIn K (.ref f18) = true)
    (a19 : PySem.W.nsIn K mainGlobals "_law_told" = some (some (.ref f19))) (l19 : K.lookup f19 = some ⟨oc19, od19, .func (PySem.W.fnOf "_law_told" "_law_told" (defArgs s__law_told) (defBody s__law_told) (defScope s__law_told) .none kV19 dc19 pm19 an19 cd19 ct19), sl19⟩) (c19 : PySem.W.codeIn K cd19 "_law_told" = true) (k19 : PySem.W.keepIn K (.ref f19) = true)
    (a20 : PySem.W.nsIn K mainGlobals "_law_is_right" = some (some (.ref f20))) (l20 : K.lookup f20 = some ⟨oc20, od20, .func (PySem.W.fnOf "_law_is_right" "_law_is_right" (defArgs s__law_is_right) (defBody s__law_is_right) (defScope s__law_is_right) .none kV20 dc20 pm20 an20 cd20 ct20), sl20⟩) (c20 : PySem.W.codeIn K cd20 "_law_is_right" = true) (k20 : PySem.W.keepIn K (.ref f20) = true)
    (a21 : PySem.W.nsIn K mainGlobals "_law_stranger" = some (some (.ref f21))) (l21 : K.lookup f21 = some ⟨oc21, od21, .func (PySem.W.fnOf "_law_stranger" "_law_stranger" (defArgs s__law_stranger) (defBody s__law_stranger) (defScope s__law_stranger) .none kV21 dc21 pm21 an21 (.ref co__law_stranger) ct21), sl21⟩) (c21 : PySem.W.codeIn K (.ref co__law_stranger) "_law_stranger" = true) (k21 : PySem.W.keepIn K (.ref f21) = true)
    (kc__law_stranger : K.lookup co__law_stranger = some ⟨.type "code", cdo__law_stranger, .fields cvs__law_stranger, csl__law_stranger⟩) (kq__law_stranger : cvs__law_stranger[11]? = some (.ref tb__law_stranger)) (kh__law_stranger : PySem.W.codeHdIn K co__law_stranger tb__law_stranger = true) (ko__law_stranger : K.lookup tb__law_stranger = none) (kt__law_stranger : h.get? tb__law_stranger = some { cls := .none, data := .fields #[] })
    (a22 : PySem.W.nsIn K mainGlobals "_law_second" = some (some (.ref f22))) (l22 : K.lookup f22 = some ⟨oc22, od22, .func (PySem.W.fnOf "_law_second" "_law_second" (defArgs s__law_second) (defBody s__law_second) (defScope s__law_second) .none kV22 dc22 pm22 an22 cd22 ct22), sl22⟩) (c22 : PySem.W.codeIn K cd22 "_law_second" = true) (k22 : PySem.W.keepIn K (.ref f22) = true)
    (a23 : PySem.W.nsIn K mainGlobals "_law_both_right" = some (some (.ref f23))) (l23 : K.lookup f23 = some ⟨oc23, od23, .func (PySem.W.fnOf "_law_both_right" "_law_both_right" (defArgs s__law_both_right) (defBody s__law_both_right) (defScope s__law_both_right) .none kV23 dc23 pm23 an23 (.ref co__law_both_right) ct23), sl23⟩) (c23 : PySem.W.codeIn K (.ref co__law_both_right) "_law_both_right" = true) (k23 : PySem.W.keepIn K (.ref f23) = true)
    (kc__law_both_right : K.lookup co__law_both_right = some ⟨.type "code", cdo__law_both_right, .fields cvs__law_both_right, csl__law_both_right⟩) (kq__law_both_right : cvs__law_both_right[11]? = some (.ref tb__law_both_right)) (kh__law_both_right : PySem.W.codeHdIn K co__law_both_right tb__law_both_right = true) (ko__law_both_right : K.lookup tb__law_both_right = none) (kt__law_both_right : h.get? tb__law_both_right = some { cls := .none, data := .fields #[] })
    (a24 : PySem.W.nsIn K mainGlobals "_law_right" = some (some (.ref f24))) (l24 : K.lookup f24 = some ⟨oc24, od24, .func (PySem.W.fnOf "_law_right" "_law_right" (defArgs s__law_right) (defBody s__law_right) (defScope s__law_right) .none kV24 dc24 pm24 an24 (.ref co__law_right) ct24), sl24⟩) (c24 : PySem.W.codeIn K (.ref co__law_right) "_law_right" = true) (k24 : PySem.W.keepIn K (.ref f24) = true)
    (kc__law_right : K.lookup co__law_right = some ⟨.type "code", cdo__law_right, .fields cvs__law_right, csl__law_right⟩) (kq__law_right : cvs__law_right[11]? = some (.ref tb__law_right)) (kh__law_right : PySem.W.codeHdIn K co__law_right tb__law_right = true) (ko__law_right : K.lookup tb__law_right = none) (kt__law_right : h.get? tb__law_right = some { cls := .none, data := .fields #[] })
    (a25 : PySem.W.nsIn K mainGlobals "law" = some (some (.ref f25))) (l25 : K.lookup f25 = some ⟨oc25, od25, .func (PySem.W.fnOf "law" "law" (defArgs s_law) (defBody s_law) (defScope s_law) .none kV25 dc25 pm25 an25 cd25 ct25), sl25⟩) (c25 : PySem.W.codeIn K cd25 "law" = true) (k25 : PySem.W.keepIn K (.ref f25) = true)
    (ya_Book : PySem.W.nsIn K mainGlobals "Book" = some (some (.ref K_Book))) (yo_Book : ownCB K K_Book (.type "type") = true)
    (yq_Book : PySem.W.findIn K (.ref K_Book) "__ne__" = some (some (.builtin "object.__ne__")))
    (yr_Book___or__ : binB K K_Book "or" = true)
    (yn_Book__pairs : PySem.W.findIn K (.ref K_Book) "_pairs" = some none)
    (yn_Book__outcomes : PySem.W.findIn K (.ref K_Book) "_outcomes" = some none)
    (a26 : PySem.W.findIn K (.ref K_Book) "__init__" = some (some (.ref f26)))
    (l26 : K.lookup f26 = some ⟨oc26, od26, .func (PySem.W.fnOf "__init__" "Book.__init__" (defArgs s_Book___init__) (defBody s_Book___init__) (defScope s_Book___init__) .none kV26 dc26 pm26 an26 cd26 ct26), sl26⟩) (c26 : PySem.W.codeIn K cd26 "Book.__init__" = true) (k26 : PySem.W.keepIn K (.ref f26) = true) (i26 : PySem.W.isFn K (.ref f26) = true)
    (a27 : PySem.W.findIn K (.ref K_Book) "of" = some (some (.ref p27))) (pl27 : K.lookup p27 = some ⟨.type "classmethod", pd27, .fields pv27, ps27⟩) (ph27 : pv27.toList.head? = some (.ref f27))
    (l27 : K.lookup f27 = some ⟨oc27, od27, .func (PySem.W.fnOf "of" "Book.of" (defArgs s_Book_of) (defBody s_Book_of) (defScope s_Book_of) .none kV27 dc27 pm27 an27 cd27 ct27), sl27⟩) (c27 : PySem.W.codeIn K cd27 "Book.of" = true) (k27 : PySem.W.keepIn K (.ref f27) = true) (i27 : PySem.W.isFn K (.ref f27) = true)
    (pc27 : PySem.W.findCls K (.ref K_Book) (.type "type") "of" = some (.get (.builtin "classmethod.__get__") (.ref p27) .none (.ref K_Book))) (pf27 : PySem.W.fnIn K f27 = true)
    (a28 : PySem.W.findIn K (.ref K_Book) "commands" = some (some (.ref p28))) (pl28 : K.lookup p28 = some ⟨.type "property", pd28, .fields pv28, ps28⟩) (ph28 : pv28.toList.head? = some (.ref f28))
    (l28 : K.lookup f28 = some ⟨oc28, od28, .func (PySem.W.fnOf "commands" "Book.commands" (defArgs s_Book_commands) (defBody s_Book_commands) (defScope s_Book_commands) .none kV28 dc28 pm28 an28 cd28 ct28), sl28⟩) (c28 : PySem.W.codeIn K cd28 "Book.commands" = true) (k28 : PySem.W.keepIn K (.ref f28) = true) (i28 : PySem.W.isFn K (.ref f28) = true)
    (pg28 : PySem.W.specialIn K (.ref p28) "__get__" = some (some (.builtin "property.__get__"))) (pt28 : PySem.W.takesIn K (.ref p28) = some true)
    (a29 : PySem.W.findIn K (.ref K_Book) "takes" = some (some (.ref f29)))
    (l29 : K.lookup f29 = some ⟨oc29, od29, .func (PySem.W.fnOf "takes" "Book.takes" (defArgs s_Book_takes) (defBody s_Book_takes) (defScope s_Book_takes) .none kV29 dc29 pm29 an29 cd29 ct29), sl29⟩) (c29 : PySem.W.codeIn K cd29 "Book.takes" = true) (k29 : PySem.W.keepIn K (.ref f29) = true) (i29 : PySem.W.isFn K (.ref f29) = true)
    (a30 : PySem.W.findIn K (.ref K_Book) "answers" = some (some (.ref f30)))
    (l30 : K.lookup f30 = some ⟨oc30, od30, .func (PySem.W.fnOf "answers" "Book.answers" (defArgs s_Book_answers) (defBody s_Book_answers) (defScope s_Book_answers) .none kV30 dc30 pm30 an30 cd30 ct30), sl30⟩) (c30 : PySem.W.codeIn K cd30 "Book.answers" = true) (k30 : PySem.W.keepIn K (.ref f30) = true) (i30 : PySem.W.isFn K (.ref f30) = true)
    (a31 : PySem.W.findIn K (.ref K_Book) "outcomes" = some (some (.ref f31)))
    (l31 : K.lookup f31 = some ⟨oc31, od31, .func (PySem.W.fnOf "outcomes" "Book.outcomes" (defArgs s_Book_outcomes) (defBody s_Book_outcomes) (defScope s_Book_outcomes) .none kV31 dc31 pm31 an31 cd31 ct31), sl31⟩) (c31 : PySem.W.codeIn K cd31 "Book.outcomes" = true) (k31 : PySem.W.keepIn K (.ref f31) = true) (i31 : PySem.W.isFn K (.ref f31) = true)
    (a32 : PySem.W.findIn K (.ref K_Book) "without" = some (some (.ref f32)))
    (l32 : K.lookup f32 = some ⟨oc32, od32, .func (PySem.W.fnOf "without" "Book.without" (defArgs s_Book_without) (defBody s_Book_without) (defScope s_Book_without) .none kV32 dc32 pm32 an32 cd32 ct32), sl32⟩) (c32 : PySem.W.codeIn K cd32 "Book.without" = true) (k32 : PySem.W.keepIn K (.ref f32) = true) (i32 : PySem.W.isFn K (.ref f32) = true)
    (a33 : PySem.W.findIn K (.ref K_Book) "is_within" = some (some (.ref f33)))
    (l33 : K.lookup f33 = some ⟨oc33, od33, .func (PySem.W.fnOf "is_within" "Book.is_within" (defArgs s_Book_is_within) (defBody s_Book_is_within) (defScope s_Book_is_within) .none kV33 dc33 pm33 an33 cd33 ct33), sl33⟩) (c33 : PySem.W.codeIn K cd33 "Book.is_within" = true) (k33 : PySem.W.keepIn K (.ref f33) = true) (i33 : PySem.W.isFn K (.ref f33) = true)
    (a34 : PySem.W.findIn K (.ref K_Book) "__or__" = some (some (.ref f34)))
    (l34 : K.lookup f34 = some ⟨oc34, od34, .func (PySem.W.fnOf "__or__" "Book.__or__" (defArgs s_Book___or__) (defBody s_Book___or__) (defScope s_Book___or__) .none kV34 dc34 pm34 an34 cd34 ct34), sl34⟩) (c34 : PySem.W.codeIn K cd34 "Book.__or__" = true) (k34 : PySem.W.keepIn K (.ref f34) = true) (i34 : PySem.W.isFn K (.ref f34) = true)
    (a35 : PySem.W.findIn K (.ref K_Book) "__getitem__" = some (some (.ref f35)))
    (l35 : K.lookup f35 = some ⟨oc35, od35, .func (PySem.W.fnOf "__getitem__" "Book.__getitem__" (defArgs s_Book___getitem__) (defBody s_Book___getitem__) (defScope s_Book___getitem__) .none kV35 dc35 pm35 an35 cd35 ct35), sl35⟩) (c35 : PySem.W.codeIn K cd35 "Book.__getitem__" = true) (k35 : PySem.W.keepIn K (.ref f35) = true) (i35 : PySem.W.isFn K (.ref f35) = true)
    (a36 : PySem.W.findIn K (.ref K_Book) "__contains__" = some (some (.ref f36)))
    (l36 : K.lookup f36 = some ⟨oc36, od36, .func (PySem.W.fnOf "__contains__" "Book.__contains__" (defArgs s_Book___contains__) (defBody s_Book___contains__) (defScope s_Book___contains__) .none kV36 dc36 pm36 an36 cd36 ct36), sl36⟩) (c36 : PySem.W.codeIn K cd36 "Book.__contains__" = true) (k36 : PySem.W.keepIn K (.ref f36) = true) (i36 : PySem.W.isFn K (.ref f36) = true)
    (a37 : PySem.W.findIn K (.ref K_Book) "__len__" = some (some (.ref f37)))
    (l37 : K.lookup f37 = some ⟨oc37, od37, .func (PySem.W.fnOf "__len__" "Book.__len__" (defArgs s_Book___len__) (defBody s_Book___len__) (defScope s_Book___len__) .none kV37 dc37 pm37 an37 cd37 ct37), sl37⟩) (c37 : PySem.W.codeIn K cd37 "Book.__len__" = true) (k37 : PySem.W.keepIn K (.ref f37) = true) (i37 : PySem.W.isFn K (.ref f37) = true)
    (a38 : PySem.W.findIn K (.ref K_Book) "__eq__" = some (some (.ref f38)))
    (l38 : K.lookup f38 = some ⟨oc38, od38, .func (PySem.W.fnOf "__eq__" "Book.__eq__" (defArgs s_Book___eq__) (defBody s_Book___eq__) (defScope s_Book___eq__) .none kV38 dc38 pm38 an38 cd38 ct38), sl38⟩) (c38 : PySem.W.codeIn K cd38 "Book.__eq__" = true) (k38 : PySem.W.keepIn K (.ref f38) = true) (i38 : PySem.W.isFn K (.ref f38) = true)
    (a39 : PySem.W.findIn K (.ref K_Book) "__str__" = some (some (.ref f39)))
    (l39 : K.lookup f39 = some ⟨oc39, od39, .func (PySem.W.fnOf "__str__" "Book.__str__" (defArgs s_Book___str__) (defBody s_Book___str__) (defScope s_Book___str__) .none kV39 dc39 pm39 an39 cd39 ct39), sl39⟩) (c39 : PySem.W.codeIn K cd39 "Book.__str__" = true) (k39 : PySem.W.keepIn K (.ref f39) = true) (i39 : PySem.W.isFn K (.ref f39) = true)
    (kn__law_both_right__law_stranger : tb__law_both_right ≠ tb__law_stranger)
    (kn__law_right__law_stranger : tb__law_right ≠ tb__law_stranger)
    (kn__law_right__law_both_right : tb__law_right ≠ tb__law_both_right)
    (z_abs : PySem.W.nsIn K mainGlobals "abs" = some none)
    (z_all : PySem.W.nsIn K mainGlobals "all" = some none)
    (z_any : PySem.W.nsIn K mainGlobals "any" = some none)
    (z_dict : PySem.W.nsIn K mainGlobals "dict" = some none)
    (z_int : PySem.W.nsIn K mainGlobals "int" = some none)
    (z_isinstance : PySem.W.nsIn K mainGlobals "isinstance" = some none)
    (z_len : PySem.W.nsIn K mainGlobals "len" = some none)
    (z_list : PySem.W.nsIn K mainGlobals "list" = some none)
    (z_max : PySem.W.nsIn K mainGlobals "max" = some none)
    (z_min : PySem.W.nsIn K mainGlobals "min" = some none)
    (z_range : PySem.W.nsIn K mainGlobals "range" = some none)
    (z_repr : PySem.W.nsIn K mainGlobals "repr" = some none)
    (z_sorted : PySem.W.nsIn K mainGlobals "sorted" = some none)
    (z_str : PySem.W.nsIn K mainGlobals "str" = some none)
    (z_tuple : PySem.W.nsIn K mainGlobals "tuple" = some none)
    (z_type : PySem.W.nsIn K mainGlobals "type" = some none)
    (v_MAX_LETTERS : PySem.W.nsIn K mainGlobals "MAX_LETTERS" = some (some (.int 8 t_MAX_LETTERS)))
    (v_RESERVED : PySem.W.nsIn K mainGlobals "RESERVED" = some (some (.ref p_RESERVED))) (w_RESERVED : K.lookup p_RESERVED = some ⟨.type "tuple", od_RESERVED, .seq ([.str "failed" t0_RESERVED, .str "kept" t1_RESERVED, .str "skipped" t2_RESERVED, .str "undone" t3_RESERVED] : List Value).toArray n_RESERVED, sl_RESERVED⟩)
    (v_MAX_COMMANDS : PySem.W.nsIn K mainGlobals "MAX_COMMANDS" = some (some (.int 6 t_MAX_COMMANDS)))
    (v_MAX_TAKES : PySem.W.nsIn K mainGlobals "MAX_TAKES" = some (some (.int 2 t_MAX_TAKES)))
    (v_MAX_ANSWERS : PySem.W.nsIn K mainGlobals "MAX_ANSWERS" = some (some (.int 3 t_MAX_ANSWERS)))
    (xa_AheadError : PySem.W.nsIn K mainGlobals "AheadError" = some (some (.ref C_AheadError)))
    (xb_AheadError : own0B K C_AheadError "ValueError.__new__" tlVE = true)
    (xa_InvalidBook : PySem.W.nsIn K mainGlobals "InvalidBook" = some (some (.ref C_InvalidBook)))
    (xb_InvalidBook : own0B K C_InvalidBook "ValueError.__new__" tlVE = true)
    (xa_InvalidOperation : PySem.W.nsIn K mainGlobals "InvalidOperation" = some (some (.ref C_InvalidOperation)))
    (xb_InvalidOperation : own0B K C_InvalidOperation "ValueError.__new__" tlVE = true)
    (xa_UnknownName : PySem.W.nsIn K mainGlobals "UnknownName" = some (some (.ref C_UnknownName)))
    (xi_UnknownName : PySem.W.findIn K (.ref C_UnknownName) "__init__" = some (some (.ref I_UnknownName)))
    (xl_UnknownName : K.lookup I_UnknownName = some ⟨oci_UnknownName, odi_UnknownName, .func (PySem.W.fnX "__init__" "UnknownName.__init__" (defArgs s_UnknownName_init) (defBody s_UnknownName_init) (defScope s_UnknownName_init) [("__class__", cc_UnknownName)] .none kVi_UnknownName dci_UnknownName pmi_UnknownName ani_UnknownName (.ref ca_UnknownName) cti_UnknownName), sli_UnknownName⟩)
    (xd_UnknownName : PySem.W.codeIn K (.ref ca_UnknownName) "UnknownName.__init__" = true)
    (xo_UnknownName : K.lookup ca_UnknownName = some ⟨ccl_UnknownName, cdd_UnknownName, .fields vs_UnknownName, ccs_UnknownName⟩)
    (xv_UnknownName : vs_UnknownName[2]? = some (.str fi_UnknownName tf_UnknownName))
    (xf_UnknownName : ((prog0.main.file : Str) == fi_UnknownName) = true)
    (xc_UnknownName : K.lookup cc_UnknownName = some ⟨cl_UnknownName, cld_UnknownName, .cell (some (.ref C_UnknownName)), csl_UnknownName⟩)
    (xb_UnknownName : own1B K C_UnknownName I_UnknownName "KeyError" "LookupError.__new__" "KeyError.__init__" tlKE "name" = true)
    (xt_C : isTab K [C_AheadError, C_InvalidBook, C_InvalidOperation, C_UnknownName] [.ref C_AheadError, .ref C_InvalidBook, .ref C_InvalidOperation, .ref C_UnknownName] = [[some true, some false, some false, some false], [some true, some true, some false, some false], [some true, some false, some true, some false], [some false, some false, some false, some true]])
    (xt_B : isTab K [C_AheadError, C_InvalidBook, C_InvalidOperation, C_UnknownName] [.type "ValueError", .type "KeyError"] = [[some true, some false], [some true, some false], [some true, some false], [some false, some true]])
    (xt_E : exTab K [C_AheadError, C_InvalidBook, C_InvalidOperation, C_UnknownName] = [[some true, some false, some false, some false], [some true, some true, some false, some false], [some true, some false, some true, some false], [some false, some false, some false, some true]])
    : ∃ (fd : FuncData) (cs : List (Addr × Addr)) (sp : Sp), (∀ p ∈ cs, TabZ K h p.1 p.2) ∧ (∀ (s : Shared) (v : Value), BindsTo s fd ⟨[v], []⟩ [("script", v)]) ∧
        (∀ (H : Hp) (a : Addr) (ns : List Int), ns.length ≤ 63 → (∀ p ∈ cs, H p.2 = some (.tbl #[])) → SqL K H a (ns.map V.int) → sp [.ref a] H (fun v _ => v = .bl true) fun _ _ _ => False) ∧
        ∀ base : Heap, K.In base → base.Ns mainGlobals mg → (∀ p ∈ cs, LamX.TabB base mg p.1 p.2) → FnG prog0 w K mg base CX0 24 fa fd ["script"] sp := by
  have e := hfa.symm.trans (PySem.W.mg_of X G a25)
  cases e
  have T : ∃ T : Txt K mg, T.cot = [(co__law_stranger, tb__law_stranger), (co__law_both_right, tb__law_both_right), (co__law_right, tb__law_right)] ∧ T.a_law = fa ∧ T.d_law = PySem.W.fnOf "law" "law" (defArgs s_law) (defBody s_law) (defScope s_law) .none kV25 dc25 pm25 an25 cd25 ct25 := ⟨{
    a_is_count := f0
    d_is_count := _
    F_is_count := fun_mk (st := s_is_count) l0 c0 k0
    m_is_count := PySem.W.mg_of X G a0
    b_is_count := (fun_mk (st := s_is_count) l0 c0 k0).binds (ps := ["value"]) fun _ _ _ _ _ _ us hl => match us, hl with | [_], _ => rfl
    a_is_name := f1
    d_is_name := _
    F_is_name := fun_mk (st := s_is_name) l1 c1 k1
    m_is_name := PySem.W.mg_of X G a1
    b_is_name := (fun_mk (st := s_is_name) l1 c1 k1).binds (ps := ["value"]) fun _ _ _ _ _ _ us hl => match us, hl with | [_], _ => rfl
    a_is_answer := f2
    d_is_answer := _
    F_is_answer := fun_mk (st := s_is_answer) l2 c2 k2
    m_is_answer := PySem.W.mg_of X G a2
    b_is_answer := (fun_mk (st := s_is_answer) l2 c2 k2).binds (ps := ["value"]) fun _ _ _ _ _ _ us hl => match us, hl with | [_], _ => rfl
    a_is_names := f3
    d_is_names := _
    F_is_names := fun_mk (st := s_is_names) l3 c3 k3
    m_is_names := PySem.W.mg_of X G a3
    b_is_names := (fun_mk (st := s_is_names) l3 c3 k3).binds (ps := ["value"]) fun _ _ _ _ _ _ us hl => match us, hl with | [_], _ => rfl
    a_book_with := f4
    d_book_with := _
    F_book_with := fun_mk (st := s_book_with) l4 c4 k4
    m_book_with := PySem.W.mg_of X G a4
    b_book_with := (fun_mk (st := s_book_with) l4 c4 k4).binds (ps := ["pairs"]) fun _ _ _ _ _ _ us hl => match us, hl with | [_], _ => rfl
    a_outcomes_in := f5
    d_outcomes_in := _
    F_outcomes_in := fun_mk (st := s_outcomes_in) l5 c5 k5
    m_outcomes_in := PySem.W.mg_of X G a5
    b_outcomes_in := (fun_mk (st := s_outcomes_in) l5 c5 k5).binds (ps := ["pairs"]) fun _ _ _ _ _ _ us hl => match us, hl with | [_], _ => rfl
    a_checked_pairs := f6
    d_checked_pairs := _
    F_checked_pairs := fun_mk (st := s_checked_pairs) l6 c6 k6
    m_checked_pairs := PySem.W.mg_of X G a6
    b_checked_pairs := (fun_mk (st := s_checked_pairs) l6 c6 k6).binds (ps := ["commands"]) fun _ _ _ _ _ _ us hl => match us, hl with | [_], _ => rfl
    a_is_pair := f7
    d_is_pair := _
    F_is_pair := fun_mk (st := s_is_pair) l7 c7 k7
    m_is_pair := PySem.W.mg_of X G a7
    b_is_pair := (fun_mk (st := s_is_pair) l7 c7 k7).binds (ps := ["value"]) fun _ _ _ _ _ _ us hl => match us, hl with | [_], _ => rfl
    a_need_book := f8
    d_need_book := _
    F_need_book := fun_mk (st := s_need_book) l8 c8 k8
    m_need_book := PySem.W.mg_of X G a8
    b_need_book := (fun_mk (st := s_need_book) l8 c8 k8).binds (ps := ["book"]) fun _ _ _ _ _ _ us hl => match us, hl with | [_], _ => rfl
    a__law_dice := f9
    d__law_dice := _
    F__law_dice := fun_mk (st := s__law_dice) l9 c9 k9
    m__law_dice := PySem.W.mg_of X G a9
    b__law_dice := (fun_mk (st := s__law_dice) l9 c9 k9).binds (ps := ["script", "at"]) fun _ _ _ _ _ _ us hl => match us, hl with | [_, _], _ => rfl
    a__law_roll := f10
    d__law_roll := _
    F__law_roll := fun_mk (st := s__law_roll) l10 c10 k10
    m__law_roll := PySem.W.mg_of X G a10
    b__law_roll := (fun_mk (st := s__law_roll) l10 c10 k10).binds (ps := ["dice", "total"]) fun _ _ _ _ _ _ us hl => match us, hl with | [_, _], _ => rfl
    a__law_one_of := f11
    d__law_one_of := _
    F__law_one_of := fun_mk (st := s__law_one_of) l11 c11 k11
    m__law_one_of := PySem.W.mg_of X G a11
    b__law_one_of := (fun_mk (st := s__law_one_of) l11 c11 k11).binds (ps := ["dice", "items"]) fun _ _ _ _ _ _ us hl => match us, hl with | [_, _], _ => rfl
    a__law_mixed := f12
    d__law_mixed := _
    F__law_mixed := fun_mk (st := s__law_mixed) l12 c12 k12
    m__law_mixed := PySem.W.mg_of X G a12
    b__law_mixed := (fun_mk (st := s__law_mixed) l12 c12 k12).binds (ps := ["dice", "items"]) fun _ _ _ _ _ _ us hl => match us, hl with | [_, _], _ => rfl
    a__law_name := f13
    d__law_name := _
    F__law_name := fun_mk (st := s__law_name) l13 c13 k13
    m__law_name := PySem.W.mg_of X G a13
    b__law_name := (fun_mk (st := s__law_name) l13 c13 k13).binds (ps := ["dice", "taken"]) fun _ _ _ _ _ _ us hl => match us, hl with | [_, _], _ => rfl
    a__law_names := f14
    d__law_names := _
    F__law_names := fun_mk (st := s__law_names) l14 c14 k14
    m__law_names := PySem.W.mg_of X G a14
    b__law_names := (fun_mk (st := s__law_names) l14 c14 k14).binds (ps := ["dice", "size"]) fun _ _ _ _ _ _ us hl => match us, hl with | [_, _], _ => rfl
    a__law_pairs := f15
    d__law_pairs := _
    F__law_pairs := fun_mk (st := s__law_pairs) l15 c15 k15
    m__law_pairs := PySem.W.mg_of X G a15
    b__law_pairs := (fun_mk (st := s__law_pairs) l15 c15 k15).binds (ps := ["dice", "most", "answers"]) fun _ _ _ _ _ _ us hl => match us, hl with | [_, _, _], _ => rfl
    a__law_outcomes := f16
    d__law_outcomes := _
    F__law_outcomes := fun_mk (st := s__law_outcomes) l16 c16 k16
    m__law_outcomes := PySem.W.mg_of X G a16
    b__law_outcomes := (fun_mk (st := s__law_outcomes) l16 c16 k16).binds (ps := ["pairs", "command"]) fun _ _ _ _ _ _ us hl => match us, hl with | [_, _], _ => rfl
    a__law_odd := f17
    d__law_odd := _
    F__law_odd := fun_mk (st := s__law_odd) l17 c17 k17
    m__law_odd := PySem.W.mg_of X G a17
    b__law_odd := (fun_mk (st := s__law_odd) l17 c17 k17).binds (ps := ["dice"]) fun _ _ _ _ _ _ us hl => match us, hl with | [_], _ => rfl
    a__law_met := f18
    d__law_met := _
    F__law_met := fun_mk (st := s__law_met) l18 c18 k18
    m__law_met := PySem.W.mg_of X G a18
    b__law_met := (fun_mk (st := s__law_met) l18 c18 k18).binds (ps := ["call"]) fun _ _ _ _ _ _ us hl => match us, hl with | [_], _ => rfl
    a__law_told := f19
    d__law_told := _
    F__law_told := fun_mk (st := s__law_told) l19 c19 k19
    m__law_told := PySem.W.mg_of X G a19
    b__law_told := (fun_mk (st := s__law_told) l19 c19 k19).binds (ps := ["book"]) fun _ _ _ _ _ _ us hl => match us, hl with | [_], _ => rfl
    a__law_is_right := f20
    d__law_is_right := _
    F__law_is_right := fun_mk (st := s__law_is_right) l20 c20 k20
    m__law_is_right := PySem.W.mg_of X G a20
    b__law_is_right := (fun_mk (st := s__law_is_right) l20 c20 k20).binds (ps := ["book", "pairs"]) fun _ _ _ _ _ _ us hl => match us, hl with | [_, _], _ => rfl
    a__law_stranger := f21
    d__law_stranger := _
    F__law_stranger := fun_mk (st := s__law_stranger) l21 c21 k21
    m__law_stranger := PySem.W.mg_of X G a21
    b__law_stranger := (fun_mk (st := s__law_stranger) l21 c21 k21).binds (ps := ["book", "odd", "pairs"]) fun _ _ _ _ _ _ us hl => match us, hl with | [_, _, _], _ => rfl
    co__law_stranger := co__law_stranger
    tb__law_stranger := tb__law_stranger
    l__law_stranger := ⟨kV21, dc21, pm21, an21, ct21, rfl⟩
    a__law_second := f22
    d__law_second := _
    F__law_second := fun_mk (st := s__law_second) l22 c22 k22
    m__law_second := PySem.W.mg_of X G a22
    b__law_second := (fun_mk (st := s__law_second) l22 c22 k22).binds (ps := ["dice", "pairs"]) fun _ _ _ _ _ _ us hl => match us, hl with | [_, _], _ => rfl
    a__law_both_right := f23
    d__law_both_right := _
    F__law_both_right := fun_mk (st := s__law_both_right) l23 c23 k23
    m__law_both_right := PySem.W.mg_of X G a23
    b__law_both_right := (fun_mk (st := s__law_both_right) l23 c23 k23).binds (ps := ["dice", "one", "two", "pairs", "more"]) fun _ _ _ _ _ _ us hl => match us, hl with | [_, _, _, _, _], _ => rfl
    co__law_both_right := co__law_both_right
    tb__law_both_right := tb__law_both_right
    l__law_both_right := ⟨kV23, dc23, pm23, an23, ct23, rfl⟩
    a__law_right := f24
    d__law_right := _
    F__law_right := fun_mk (st := s__law_right) l24 c24 k24
    m__law_right := PySem.W.mg_of X G a24
    b__law_right := (fun_mk (st := s__law_right) l24 c24 k24).binds (ps := ["dice"]) fun _ _ _ _ _ _ us hl => match us, hl with | [_], _ => rfl
    co__law_right := co__law_right
    tb__law_right := tb__law_right
    l__law_right := ⟨kV24, dc24, pm24, an24, ct24, rfl⟩
    a_law := fa
    d_law := _
    F_law := fun_mk (st := s_law) l25 c25 k25
    m_law := PySem.W.mg_of X G a25
    b_law := (fun_mk (st := s_law) l25 c25 k25).binds (ps := ["script"]) fun _ _ _ _ _ _ us hl => match us, hl with | [_], _ => rfl
    c_Book := K_Book
    m_Book := PySem.W.mg_of X G ya_Book
    o_Book := ownC_mk yo_Book
    N_Book := ⟨yq_Book, (ownC_mk yo_Book).hm⟩
    B_Book___or__ := binB_mk yr_Book___or__
    n_Book__pairs := yn_Book__pairs
    n_Book__outcomes := yn_Book__outcomes
    a_Book___init__ := f26
    d_Book___init__ := _
    F_Book___init__ := fun_mk (st := s_Book___init__) l26 c26 k26
    k_Book := ⟨(ownC_mk yo_Book).makes, a26, i26, (ownC_mk yo_Book).kp⟩
    a_Book_of := f27
    d_Book_of := _
    F_Book_of := fun_mk (st := s_Book_of) l27 c27 k27
    b_Book_of := (fun_mk (st := s_Book_of) l27 c27 k27).binds (ps := ["cls", "commands"]) fun _ _ _ _ _ _ us hl => match us, hl with | [_, _], _ => rfl
    p_Book_of := p27
    P_Book_of := ⟨pc27, rec_hd pl27 ph27, pf27⟩
    a_Book_commands := f28
    d_Book_commands := _
    F_Book_commands := fun_mk (st := s_Book_commands) l28 c28 k28
    b_Book_commands := (fun_mk (st := s_Book_commands) l28 c28 k28).binds (ps := ["self"]) fun _ _ _ _ _ _ us hl => match us, hl with | [_], _ => rfl
    p_Book_commands := p28
    P_Book_commands := ⟨a28, pg28, pt28, rec_hd pl28 ph28⟩
    a_Book_takes := f29
    d_Book_takes := _
    F_Book_takes := fun_mk (st := s_Book_takes) l29 c29 k29
    b_Book_takes := (fun_mk (st := s_Book_takes) l29 c29 k29).binds (ps := ["self", "command"]) fun _ _ _ _ _ _ us hl => match us, hl with | [_, _], _ => rfl
    M_Book_takes := ⟨a29, i29, k29⟩
    a_Book_answers := f30
    d_Book_answers := _
    F_Book_answers := fun_mk (st := s_Book_answers) l30 c30 k30
    b_Book_answers := (fun_mk (st := s_Book_answers) l30 c30 k30).binds (ps := ["self", "command"]) fun _ _ _ _ _ _ us hl => match us, hl with | [_, _], _ => rfl
    M_Book_answers := ⟨a30, i30, k30⟩
    a_Book_outcomes := f31
    d_Book_outcomes := _
    F_Book_outcomes := fun_mk (st := s_Book_outcomes) l31 c31 k31
    b_Book_outcomes := (fun_mk (st := s_Book_outcomes) l31 c31 k31).binds (ps := ["self", "command"]) fun _ _ _ _ _ _ us hl => match us, hl with | [_, _], _ => rfl
    M_Book_outcomes := ⟨a31, i31, k31⟩
    a_Book_without := f32
    d_Book_without := _
    F_Book_without := fun_mk (st := s_Book_without) l32 c32 k32
    b_Book_without := (fun_mk (st := s_Book_without) l32 c32 k32).binds (ps := ["self", "command"]) fun _ _ _ _ _ _ us hl => match us, hl with | [_, _], _ => rfl
    M_Book_without := ⟨a32, i32, k32⟩
    a_Book_is_within := f33
    d_Book_is_within := _
    F_Book_is_within := fun_mk (st := s_Book_is_within) l33 c33 k33
    b_Book_is_within := (fun_mk (st := s_Book_is_within) l33 c33 k33).binds (ps := ["self", "other"]) fun _ _ _ _ _ _ us hl => match us, hl with | [_, _], _ => rfl
    M_Book_is_within := ⟨a33, i33, k33⟩
    a_Book___or__ := f34
    d_Book___or__ := _
    F_Book___or__ := fun_mk (st := s_Book___or__) l34 c34 k34
    b_Book___or__ := (fun_mk (st := s_Book___or__) l34 c34 k34).binds (ps := ["self", "other"]) fun _ _ _ _ _ _ us hl => match us, hl with | [_, _], _ => rfl
    D_Book___or__ := ⟨a34, i34⟩
    a_Book___getitem__ := f35
    d_Book___getitem__ := _
    F_Book___getitem__ := fun_mk (st := s_Book___getitem__) l35 c35 k35
    b_Book___getitem__ := (fun_mk (st := s_Book___getitem__) l35 c35 k35).binds (ps := ["self", "command"]) fun _ _ _ _ _ _ us hl => match us, hl with | [_, _], _ => rfl
    D_Book___getitem__ := ⟨a35, i35⟩
    a_Book___contains__ := f36
    d_Book___contains__ := _
    F_Book___contains__ := fun_mk (st := s_Book___contains__) l36 c36 k36
    b_Book___contains__ := (fun_mk (st := s_Book___contains__) l36 c36 k36).binds (ps := ["self", "value"]) fun _ _ _ _ _ _ us hl => match us, hl with | [_, _], _ => rfl
    D_Book___contains__ := ⟨a36, i36⟩
    a_Book___len__ := f37
    d_Book___len__ := _
    F_Book___len__ := fun_mk (st := s_Book___len__) l37 c37 k37
    b_Book___len__ := (fun_mk (st := s_Book___len__) l37 c37 k37).binds (ps := ["self"]) fun _ _ _ _ _ _ us hl => match us, hl with | [_], _ => rfl
    D_Book___len__ := ⟨a37, i37⟩
    a_Book___eq__ := f38
    d_Book___eq__ := _
    F_Book___eq__ := fun_mk (st := s_Book___eq__) l38 c38 k38
    b_Book___eq__ := (fun_mk (st := s_Book___eq__) l38 c38 k38).binds (ps := ["self", "other"]) fun _ _ _ _ _ _ us hl => match us, hl with | [_, _], _ => rfl
    D_Book___eq__ := ⟨a38, i38⟩
    a_Book___str__ := f39
    d_Book___str__ := _
    F_Book___str__ := fun_mk (st := s_Book___str__) l39 c39 k39
    b_Book___str__ := (fun_mk (st := s_Book___str__) l39 c39 k39).binds (ps := ["self"]) fun _ _ _ _ _ _ us hl => match us, hl with | [_], _ => rfl
    D_Book___str__ := ⟨a39, i39⟩
    n__law_both_right__law_stranger := kn__law_both_right__law_stranger
    n__law_right__law_stranger := kn__law_right__law_stranger
    n__law_right__law_both_right := kn__law_right__law_both_right
    z_abs := PySem.W.mg_none_of X G z_abs
    z_all := PySem.W.mg_none_of X G z_all
    z_any := PySem.W.mg_none_of X G z_any
    z_dict := PySem.W.mg_none_of X G z_dict
    z_int := PySem.W.mg_none_of X G z_int
    z_isinstance := PySem.W.mg_none_of X G z_isinstance
    z_len := PySem.W.mg_none_of X G z_len
    z_list := PySem.W.mg_none_of X G z_list
    z_max := PySem.W.mg_none_of X G z_max
    z_min := PySem.W.mg_none_of X G z_min
    z_range := PySem.W.mg_none_of X G z_range
    z_repr := PySem.W.mg_none_of X G z_repr
    z_sorted := PySem.W.mg_none_of X G z_sorted
    z_str := PySem.W.mg_none_of X G z_str
    z_tuple := PySem.W.mg_none_of X G z_tuple
    z_type := PySem.W.mg_none_of X G z_type
    t_MAX_LETTERS := t_MAX_LETTERS
    m_MAX_LETTERS := PySem.W.mg_of X G v_MAX_LETTERS
    a_RESERVED := p_RESERVED
    m_RESERVED := PySem.W.mg_of X G v_RESERVED
    q_RESERVED := fun H => Or.inr ⟨_, _, _, w_RESERVED, rfl, rfl, (by show 4 ≤ sizeLine; decide), .cons ⟨_, rfl⟩ (.cons ⟨_, rfl⟩ (.cons ⟨_, rfl⟩ (.cons ⟨_, rfl⟩ (.nil))))⟩
    t_MAX_COMMANDS := t_MAX_COMMANDS
    m_MAX_COMMANDS := PySem.W.mg_of X G v_MAX_COMMANDS
    t_MAX_TAKES := t_MAX_TAKES
    m_MAX_TAKES := PySem.W.mg_of X G v_MAX_TAKES
    t_MAX_ANSWERS := t_MAX_ANSWERS
    m_MAX_ANSWERS := PySem.W.mg_of X G v_MAX_ANSWERS
    c_AheadError := C_AheadError
    e_AheadError := own0_mk (PySem.W.mg_of X G xa_AheadError) xb_AheadError
    c_InvalidBook := C_InvalidBook
    e_InvalidBook := own0_mk (PySem.W.mg_of X G xa_InvalidBook) xb_InvalidBook
    c_InvalidOperation := C_InvalidOperation
    e_InvalidOperation := own0_mk (PySem.W.mg_of X G xa_InvalidOperation) xb_InvalidOperation
    c_UnknownName := C_UnknownName
    i_UnknownName := I_UnknownName
    d_UnknownName := _
    e_UnknownName := own1_mk base_KE (PySem.W.mg_of X G xa_UnknownName) xi_UnknownName (supFn_mk (st := s_UnknownName_init) xl_UnknownName xd_UnknownName xo_UnknownName xv_UnknownName xf_UnknownName xc_UnknownName (by decide +kernel) (PySem.W.mg_none_of X G z_super) (by rfl)) (Binds.all fun us hl => match us, hl with | [_, _], _ => rfl) xb_UnknownName
    tabC := xt_C
    tabE := xt_E
    tabB := xt_B
    }, rfl, rfl, rfl⟩
  obtain ⟨T, e0, e1, e2⟩ := T
  have tz : ∀ p ∈ T.cot, TabZ K h p.1 p.2 := by
    rw [e0]
    exact List.forall_mem_cons.mpr ⟨⟨kt__law_stranger, ko__law_stranger, PySem.W.codeHd_of_K X kh__law_stranger⟩, List.forall_mem_cons.mpr ⟨⟨kt__law_both_right, ko__law_both_right, PySem.W.codeHd_of_K X kh__law_both_right⟩, List.forall_mem_cons.mpr ⟨⟨kt__law_right, ko__law_right, PySem.W.codeHd_of_K X kh__law_right⟩, fun _ h => nomatch h⟩⟩⟩
  refine ⟨PySem.W.fnOf "law" "law" (defArgs s_law) (defBody s_law) (defScope s_law) .none kV25 dc25 pm25 an25 cd25 ct25, T.cot, sp_lawT T, tz, fun s v => .of_eq rfl, fun H a ns hl ht hs => want_lawT T hl ht hs, fun base _ _ TB => ?_⟩
  have r := ok_law (w := w) (base := base) T TB
  rw [e1, e2] at r
  exact r
theorem walk {l : PySem.W.OpenLaw} {q : Program} {loose : List Str} {XP : (Str → Option Value) → Heap → Prop} {YP : World → Heap → Prop} {d : DefRec} {K : Params → PySem.W.Frag} (hn : l.most = some 63) (hdf : d.params.defaults = [])
    (hY : ∀ (w : World) (h : Heap), YP w h → (K w.params).In h)
    (F : ∀ (w : World) (mg : Str → Option Value) (fa : Addr) (h : Heap), YP w h → (K w.params).In h → h.Ns mainGlobals mg → mg d.name = some (.ref fa) →
      ∃ (fd : FuncData) (cs : List (Addr × Addr)) (sp : Sp), (∀ p ∈ cs, TabZ (K w.params) h p.1 p.2) ∧ (∀ (s : Shared) (u : Value), BindsTo s fd ⟨[u], []⟩ [("script", u)]) ∧
        (∀ (H : Hp) (a : Addr) (ns : List Int), ns.length ≤ 63 → (∀ p ∈ cs, H p.2 = some (.tbl #[])) → SqL (K w.params) H a (ns.map V.int) → sp [.ref a] H (fun v _ => v = .bl true) fun _ _ _ => False) ∧
        ∀ base : Heap, (K w.params).In base → base.Ns mainGlobals mg → (∀ p ∈ cs, LamX.TabB base mg p.1 p.2) → FnG l.prog w (K w.params) mg base CX0 24 fa fd ["script"] sp) :
    PySem.W.WalkO q loose XP YP l.row.toRowW d [] (fun f vs => PySem.call f vs) :=
  law_walkT (n := 63) (k := 24) (x := "script") (CX := fun _ => CX0) hn (by decide) hdf ⟨rfl, by decide, by decide⟩ hY F fun _ _ _ _ _ z => z
end K02
open PySem PySem.W PyProof.Rows in
set_option maxRecDepth 100000 in
set_option maxHeartbeats 0 in
theorem PySem.Challenge.cw_skipahead_k02_whole_books_as_values_holds : PySem.Challenge.rw_skipahead_k02_whole_books_as_values.Holds := by
  w_on; o_law; k_head; (case hw => w_witness2)
  k_fill
  refine K02.walk (l := PySem.Challenge.rw_skipahead_k02_whole_books_as_values) rfl rfl (fun w h Y => PySem.W.km_in_of Y) ?F
  case F =>
    intro w mg fa h Y KX G hmg
    have tabs := PySem.W.km_tabs_of Y
    refine' K02.all_mk KX G hmg ?z_super ?a0 ?l0 ?c0 ?k0 ?a1 ?l1 ?c1 ?k1 ?a2 ?l2 ?c2 ?k2 ?a3 ?l3 ?c3 ?k3 ?a4 ?l4 ?c4 ?k4 ?a5 ?l5 ?c5 ?k5 ?a6 ?l6 ?c6 ?k6 ?a7 ?l7 ?c7 ?k7 ?a8 ?l8 ?c8 ?k8 ?a9 ?l9 ?c9 ?k9 ?a10 ?l10 ?c10 ?k10 ?a11 ?l11 ?c11 ?k11 ?a12 ?l12 ?c12 ?k12 ?a13 ?l13 ?c13 ?k13 ?a14 ?l14 ?c14 ?k14 ?a15 ?l15 ?c15 ?k15 ?a16 ?l16 ?c16 ?k16 ?a17 ?l17 ?c17 ?k17 ?a18 ?l18 ?c18 ?k18 ?a19 ?l19 ?c19 ?k19 ?a20 ?l20 ?c20 ?k20 ?a21 ?l21 ?c21 ?k21 ?kc__law_stranger ?kq__law_stranger ?kh__law_stranger ?ko__law_stranger ?kt__law_stranger ?a22 ?l22 ?c22 ?k22 ?a23 ?l23 ?c23 ?k23 ?kc__law_both_right ?kq__law_both_right ?kh__law_both_right ?ko__law_both_right ?kt__law_both_right ?a24 ?l24 ?c24 ?k24 ?kc__law_right ?kq__law_right ?kh__law_right ?ko__law_right ?kt__law_right ?a25 ?l25 ?c25 ?k25 ?ya_Book ?yo_Book ?yq_Book ?yr_Book___or__ ?yn_Book__pairs ?yn_Book__outcomes ?a26 ?l26 ?c26 ?k26 ?i26 ?a27 ?pl27 ?ph27 ?l27 ?c27 ?k27 ?i27 ?pc27 ?pf27 ?a28 ?pl28 ?ph28 ?l28 ?c28 ?k28 ?i28 ?pg28 ?pt28 ?a29 ?l29 ?c29 ?k29 ?i29 ?a30 ?l30 ?c30 ?k30 ?i30 ?a31 ?l31 ?c31 ?k31 ?i31 ?a32 ?l32 ?c32 ?k32 ?i32 ?a33 ?l33 ?c33 ?k33 ?i33 ?a34 ?l34 ?c34 ?k34 ?i34 ?a35 ?l35 ?c35 ?k35 ?i35 ?a36 ?l36 ?c36 ?k36 ?i36 ?a37 ?l37 ?c37 ?k37 ?i37 ?a38 ?l38 ?c38 ?k38 ?i38 ?a39 ?l39 ?c39 ?k39 ?i39 ?kn__law_both_right__law_stranger ?kn__law_right__law_stranger ?kn__law_right__law_both_right ?z_abs ?z_all ?z_any ?z_dict ?z_int ?z_isinstance ?z_len ?z_list ?z_max ?z_min ?z_range ?z_repr ?z_sorted ?z_str ?z_tuple ?z_type ?v_MAX_LETTERS ?v_RESERVED ?w_RESERVED ?v_MAX_COMMANDS ?v_MAX_TAKES ?v_MAX_ANSWERS ?xa_AheadError ?xb_AheadError ?xa_InvalidBook ?xb_InvalidBook ?xa_InvalidOperation ?xb_InvalidOperation ?xa_UnknownName ?xi_UnknownName ?xl_UnknownName ?xd_UnknownName ?xo_UnknownName ?xv_UnknownName ?xf_UnknownName ?xc_UnknownName ?xb_UnknownName ?xt_C ?xt_B ?xt_E
    (case z_super => k_is)
    (case a0 => k_is)
    (case l0 => k_is)
    (case c0 => k_is)
    (case k0 => k_is)
    (case a1 => k_is)
    (case l1 => k_is)
    (case c1 => k_is)
    (case k1 => k_is)
    (case a2 => k_is)
    (case l2 => k_is)
    (case c2 => k_is)
    (case k2 => k_is)
    (case a3 => k_is)
    (case l3 => k_is)
    (case c3 => k_is)
    (case k3 => k_is)
    (case a4 => k_is)
    (case l4 => k_is)
    (case c4 => k_is)
    (case k4 => k_is)
    (case a5 => k_is)
    (case l5 => k_is)
    (case c5 => k_is)
    (case k5 => k_is)
    (case a6 => k_is)
    (case l6 => k_is)
    (case c6 => k_is)
    (case k6 => k_is)
    (case a7 => k_is)
    (case l7 => k_is)
    (case c7 => k_is)
    (case k7 => k_is)
    (case a8 => k_is)
    (case l8 => k_is)
    (case c8 => k_is)
    (case k8 => k_is)
    (case a9 => k_is)
    (case l9 => k_is)
    (case c9 => k_is)
    (case k9 => k_is)
    (case a10 => k_is)
    (case l10 => k_is)
    (case c10 => k_is)
    (case k10 => k_is)
    (case a11 => k_is)
    (case l11 => k_is)
    (case c11 => k_is)
    (case k11 => k_is)
    (case a12 => k_is)
    (case l12 => k_is)
    (case c12 => k_is)
    (case k12 => k_is)
    (case a13 => k_is)
    (case l13 => k_is)
    (case c13 => k_is)
    (case k13 => k_is)
    (case a14 => k_is)
    (case l14 => k_is)
    (case c14 => k_is)
    (case k14 => k_is)
    (case a15 => k_is)
    (case l15 => k_is)
    (case c15 => k_is)
    (case k15 => k_is)
    (case a16 => k_is)
    (case l16 => k_is)
    (case c16 => k_is)
    (case k16 => k_is)
    (case a17 => k_is)
    (case l17 => k_is)
    (case c17 => k_is)
    (case k17 => k_is)
    (case a18 => k_is)
    (case l18 => k_is)
    (case c18 => k_is)
    (case k18 => k_is)
    (case a19 => k_is)
    (case l19 => k_is)
    (case c19 => k_is)
    (case k19 => k_is)
    (case a20 => k_is)
    (case l20 => k_is)
    (case c20 => k_is)
    (case k20 => k_is)
    (case a21 => k_is)
    (case l21 => k_is)
    (case c21 => k_is)
    (case k21 => k_is)
    (case kc__law_stranger => k_is)
    (case kq__law_stranger => rfl)
    (case kh__law_stranger => kernel_rfl)
    (case ko__law_stranger => kernel_rfl)
    (case kt__law_stranger => exact tabs _ (by k_mem))
    (case a22 => k_is)
    (case l22 => k_is)
    (case c22 => k_is)
    (case k22 => k_is)
    (case a23 => k_is)
    (case l23 => k_is)
    (case c23 => k_is)
    (case k23 => k_is)
    (case kc__law_both_right => k_is)
    (case kq__law_both_right => rfl)
    (case kh__law_both_right => kernel_rfl)
    (case ko__law_both_right => kernel_rfl)
    (case kt__law_both_right => exact tabs _ (by k_mem))
    (case a24 => k_is)
    (case l24 => k_is)
    (case c24 => k_is)
    (case k24 => k_is)
    (case kc__law_right => k_is)
    (case kq__law_right => rfl)
    (case kh__law_right => kernel_rfl)
    (case ko__law_right => kernel_rfl)
    (case kt__law_right => exact tabs _ (by k_mem))
    (case a25 => k_is)
    (case l25 => k_is)
    (case c25 => k_is)
    (case k25 => k_is)
    (case ya_Book => k_is)
    (case yo_Book => kernel_rfl)
    (case yq_Book => k_is)
    (case yr_Book___or__ => kernel_rfl)
    (case yn_Book__pairs => k_is)
    (case yn_Book__outcomes => k_is)
    (case a26 => k_is)
    (case l26 => k_is)
    (case c26 => k_is)
    (case k26 => k_is)
    (case i26 => k_is)
    (case a27 => k_is)
    (case pl27 => k_is)
    (case ph27 => rfl)
    (case l27 => k_is)
    (case c27 => k_is)
    (case k27 => k_is)
    (case i27 => k_is)
    (case pc27 => kernel_rfl)
    (case pf27 => kernel_rfl)
    (case a28 => k_is)
    (case pl28 => k_is)
    (case ph28 => rfl)
    (case l28 => k_is)
    (case c28 => k_is)
    (case k28 => k_is)
    (case i28 => k_is)
    (case pg28 => k_is)
    (case pt28 => k_is)
    (case a29 => k_is)
    (case l29 => k_is)
    (case c29 => k_is)
    (case k29 => k_is)
    (case i29 => k_is)
    (case a30 => k_is)
    (case l30 => k_is)
    (case c30 => k_is)
    (case k30 => k_is)
    (case i30 => k_is)
    (case a31 => k_is)
    (case l31 => k_is)
    (case c31 => k_is)
    (case k31 => k_is)
    (case i31 => k_is)
    (case a32 => k_is)
    (case l32 => k_is)
    (case c32 => k_is)
    (case k32 => k_is)
    (case i32 => k_is)
    (case a33 => k_is)
    (case l33 => k_is)
    (case c33 => k_is)
    (case k33 => k_is)
    (case i33 => k_is)
    (case a34 => k_is)
    (case l34 => k_is)
    (case c34 => k_is)
    (case k34 => k_is)
    (case i34 => k_is)
    (case a35 => k_is)
    (case l35 => k_is)
    (case c35 => k_is)
    (case k35 => k_is)
    (case i35 => k_is)
    (case a36 => k_is)
    (case l36 => k_is)
    (case c36 => k_is)
    (case k36 => k_is)
    (case i36 => k_is)
    (case a37 => k_is)
    (case l37 => k_is)
    (case c37 => k_is)
    (case k37 => k_is)
    (case i37 => k_is)
    (case a38 => k_is)
    (case l38 => k_is)
    (case c38 => k_is)
    (case k38 => k_is)
    (case i38 => k_is)
    (case a39 => k_is)
    (case l39 => k_is)
    (case c39 => k_is)
    (case k39 => k_is)
    (case i39 => k_is)
    (case kn__law_both_right__law_stranger => decide)
    (case kn__law_right__law_stranger => decide)
    (case kn__law_right__law_both_right => decide)
    (case z_abs => k_is)
    (case z_all => k_is)
    (case z_any => k_is)
    (case z_dict => k_is)
    (case z_int => k_is)
    (case z_isinstance => k_is)
    (case z_len => k_is)
    (case z_list => k_is)
    (case z_max => k_is)
    (case z_min => k_is)
    (case z_range => k_is)
    (case z_repr => k_is)
    (case z_sorted => k_is)
    (case z_str => k_is)
    (case z_tuple => k_is)
    (case z_type => k_is)
    (case v_MAX_LETTERS => k_is)
    (case v_RESERVED => k_is)
    (case w_RESERVED => k_is)
    (case v_MAX_COMMANDS => k_is)
    (case v_MAX_TAKES => k_is)
    (case v_MAX_ANSWERS => k_is)
    (case xa_AheadError => k_is)
    (case xb_AheadError => kernel_rfl)
    (case xa_InvalidBook => k_is)
    (case xb_InvalidBook => kernel_rfl)
    (case xa_InvalidOperation => k_is)
    (case xb_InvalidOperation => kernel_rfl)
    (case xa_UnknownName => k_is)
    (case xi_UnknownName => k_is)
    (case xl_UnknownName => k_is)
    (case xd_UnknownName => k_is)
    (case xo_UnknownName => k_is)
    (case xv_UnknownName => rfl)
    (case xf_UnknownName => kernel_rfl)
    (case xc_UnknownName => k_is)
    (case xb_UnknownName => kernel_rfl)
    (case xt_C => kernel_rfl)
    (case xt_B => kernel_rfl)
    (case xt_E => kernel_rfl)
