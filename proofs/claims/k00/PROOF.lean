import PyProof.Rows.All
import Wide.All
import OpenK.AllK
import Wide.FinOn
import HandS.ForMost
import HandS.IsInst
import HandS.Walk
import HandS.Exc
import HandS.Style
import HandS.Evl
import KE.KExcSuper
import KE.KExcIs
import KE.KSuper
import HandS.ExcInit
import HandS.ExcBuiltin
import HandS.ExcOwn
import HandS.ExcIs
import HandS.ExcValue
import HandS.TryMany
import HandS.FStr
import HandS.Steps
import HandS.ClsMeth
import HandS.ExcField
import HandS.FStrTup
import PySem.Challenge.RW_skipahead_k00_errors
set_option Elab.async false
set_option linter.all false
set_option maxRecDepth 100000
set_option maxHeartbeats 4000000
/-! Defs whose surroundings have no repr under way: the room with that fact, a def's promise in such a room, its calls, the law's end. -/
namespace G9
open PySem PySem.Spec PyProof.Rows L2

structure RoomG (k : Nat) (A : Around) : Prop where
  r : Room k A
  g : A.guards = some []
theorem RoomG.down {j k : Nat} {A : Around} (h : RoomG k A) (l : j ≤ k) : RoomG j A := ⟨h.r.mono l, h.g⟩

structure FnG (P : Program) (w : World) (K : PySem.W.Frag) (mg : Str → Option Value) (base : Heap) (CX : CXT) (k : Nat) (f : Addr) (fd : FuncData) (ps : List Str) (sp : Sp) : Prop where
  count : ∀ vs H Q E, sp vs H Q E → vs.length = ps.length
  goes : ∀ (A : Around) (fs : List Env) (s : Shared) (H : Hp) (as : Args) (us : List Value) (vs : List V) (Q : VK) (E : XK), RoomG k A → Env0 P w K mg base A fs s H →
    BindsTo s fd as (ps.zip us) → Vals vs us → sp vs H Q E → codeAny (model P w) A (.call (.ref f) as) (CR CX fs P w H s Q E) s

section
variable {P : Program} {w : World} {K : PySem.W.Frag} {mg : Str → Option Value} {base : Heap} {CX : CXT} {k : Nat} {f : Addr} {fd : FuncData} {ps N : List Str} {sp : Sp}
theorem FnG.up {j : Nat} (F : FnG P w K mg base CX j f fd ps sp) (l : j ≤ k) : FnG P w K mg base CX k f fd ps sp :=
  ⟨F.count, fun A fs s H as us vs Q E h => F.goes A fs s H as us vs Q E (h.down l)⟩
theorem FnG.weaker {sp' : Sp} (F : FnG P w K mg base CX k f fd ps sp) (i : ∀ vs H Q E, sp' vs H Q E → sp vs H Q E) : FnG P w K mg base CX k f fd ps sp' :=
  ⟨fun vs H Q E h => F.count vs H Q E (i vs H Q E h), fun A fs s H as us vs Q E a b c d e => F.goes A fs s H as us vs Q E a b c d (i vs H Q E e)⟩

/-- a def by its body -/
theorem by_body {name qual : Str} {params : Arguments} {body : List Stmt} {scope : Scope} {dV kV doc pm cdv ct oc : Value} {an od : Option Addr} {osl : Array (Option Value)}
    (at_ : K.lookup f = some ⟨oc, od, .func (PySem.W.fnOf name qual params body scope dV kV doc pm an cdv ct), osl⟩) (cd : PySem.W.codeIn K cdv qual = true) (S : FnScope N ps scope)
    (count : ∀ vs H Q E, sp vs H Q E → vs.length = ps.length)
    (hb : ∀ (A : Around) (fs : List Env) (s : Shared) (H : Hp) (vs : List V) (Q : VK) (E : XK), RoomG k (A.deeper (envOfC qual scope s.heap.objs.size f cdv)) → sp vs H Q E →
      ∃ t, PSs (cxOf CX P w K mg base N qual scope f cdv A fs s H E) body t ∧ t { nx := fun _ G => Q .non G, rt := Q } (start N vs) H) :
    FnG P w K mg base CX (k + 1) f (PySem.W.fnOf name qual params body scope dV kV doc pm an cdv ct) ps sp := by
  constructor
  · exact count
  intro A fs s H as us vs Q E room env bind rel want
  have same := count _ _ _ _ want
  have inS : K.In s.heap := env.mod.kin.keeps fun b o z => (env.bs b o z).1
  have noLim : s.heap.NoLimit := env.mod.nolimit.keeps fun b o z => (env.bs b o z).1
  have kinds : ∀ y ∈ ps.zip us, scope.names.lookup y.1 = some .local ∨ (scope.names.lookup y.1 = some .cell ∧ ((cellsFrom (s.heap.objs.size + 1) scope.names []).lookup y.1).isSome = true) := by
    rintro ⟨n, v⟩ hy
    rcases S.par n (List.of_mem_zip hy).1 with z | z
    · exact Or.inl z
    · exact Or.inr ⟨z, PySem.W.cellsFrom_some _ _ _ (.inl z)⟩
  refine codeAny_call_function room.r.depth (inS _ _ at_) rfl S.co S.gen rfl (PySem.W.codeRec_of inS cd) (bind _ _ _ _ ?_)
  refine wpAny_newFunctionEnv_cells S.kind kinds fun en ee s1 x => ?_
  subst ee
  refine ⟨noLim.keeps x.toInCall.keep, codeAny_func ?_⟩
  obtain ⟨t, ht, hq⟩ := hb A fs s H vs Q E ⟨room.r.deeper _, room.g⟩ want
  have J := inv_start (CX := CX) (E := E) S room.r.hd env same rel x
  have done : ∀ {τ : L2.St} {G : Hp} {v : V} {u : Value} {z : Shared}, Inv (cxOf CX P w K mg base N qual scope f cdv A fs s H E) [] τ G z → RelV v u → Q v G → CE fs P w H s Q u z :=
    fun {_ G v _ _} I r q => ⟨v, G, I.os, I.bare, I.base, I.hok, r, q⟩
  refine wpAny_mono (ht.run [] s1 (start N vs) H _ J hq) ?_ fun _ _ z => z
  intro fl z hz
  cases fl with
  | next =>
    obtain ⟨_, _, I, q⟩ := hz
    exact done (v := V.non) (u := Value.none) I rfl q
  | ret u =>
    obtain ⟨_, _, _, I, r, q⟩ := hz
    exact done I r q
  | brk => exact hz.elim fun _ h => h.elim fun _ h => h.2.elim
  | cont => exact hz.elim fun _ h => h.elim fun _ h => h.2.elim

/-- a def of the text, nothing raised leaves it -/
theorem okG {x qual : Str} {st : Stmt} (F : Fun K x qual st f fd) (S : FnScope N ps (defScope st)) (count : ∀ vs H Q E, sp vs H Q E → vs.length = ps.length)
    (hb : ∀ (cdv : Value) (A : Around) (fs : List Env) (s : Shared) (H : Hp) (vs : List V) (Q : VK) (E : XK), RoomG k (A.deeper (envOfC qual (defScope st) s.heap.objs.size f cdv)) → sp vs H Q E →
      ∃ t, PSs (cxOf CX0 P w K mg base N qual (defScope st) f cdv A fs s H E).nox (defBody st) t ∧ t { nx := fun _ G => Q .non G, rt := Q } (start N vs) H) : FnG P w K mg base CX0 (k + 1) f fd ps sp := by
  obtain ⟨_, _, _, _, _, _, cdv, _, _, rfl, lk, cd⟩ := F.ex
  refine by_body lk cd S count fun A fs s H vs Q E room want => ?_
  obtain ⟨t, h, q⟩ := hb cdv A fs s H vs Q E room want
  exact ⟨t, h.nox, q⟩
end

section
variable {X : Cx} {CX : CXT} {k : Nat} {f C : Addr} {fd : FuncData} {ps : List Str} {sp : Sp} {dvs : List V} {ds : List Value} {E : XK} {x m : Str} {p pos apos : Pos} {e o : Expr} {es : List Expr} {ta : TE} {t : TA}
theorem callee {pins : List (Addr × Obj)} {σ : L2.St} {H : Hp} {s : Shared} {Q : VK} {us : List Value} {vs : List V} (F : FnG X.prog X.w X.K X.mg X.base CX k f fd ps sp) (room : RoomG k X.A) (hb : Binds X.K fd ps ds) (hd : Vals dvs ds) (hx : Passes CX X E)
    (I : Inv X pins σ H s) (r : Vals vs us) (want : sp (vs ++ dvs) H Q E) : wpAny (model X.prog X.w) X.A (call (.ref f) us) (EP X pins σ Q) X.xe s := by
  have rr : Vals (vs ++ dvs) (us ++ ds) := r.append hd
  have len : (us ++ ds).length = ps.length := rr.length.symm.trans (F.count _ _ _ _ want)
  refine wpAny_call (codeAny_mono (F.goes X.A X.stack s H ⟨us, []⟩ (us ++ ds) (vs ++ dvs) Q E room I.env0 (hb s us I.kIn len) rr want) ?_)
  intro res z hz
  match res, hz with
  | .error e, hz => exact hx pins σ H s e z I hz
  | .ok (.ret u), hz => exact I.after hz

theorem pe_callG (F : FnG X.prog X.w X.K X.mg X.base CX k f fd ps sp) (room : RoomG k X.A) (hg : Gl X x) (hm : X.mg x = some (.ref f)) (hk : PySem.W.keepIn X.K (.ref f) = true) (hb : Binds X.K fd ps ds) (hd : Vals dvs ds) (hx : Passes CX X E)
    (ha : PA X (e :: es) t) (nd : (x == ("__debug__" : Str)) = false := by decide) (he : starEach (e :: es) X.env = (false, eval e X.env) :: starEach es X.env := by rfl) (hp : (backTo pos (starEach es X.env)).any (·.1) = false := by rfl) :
    PE X (.Call (.Name x p) (e :: es) [] pos) (tCall sp dvs E t) := by
  constructor
  intro pins s σ H Q I want
  refine wpAny_Call_Name_kw (ld_glob I hg hm ?_ nd)
  exact PySem.W.callWith_K (h₀ := X.base) I.ok.mod.kin hk (thn (ha.run pos pins s σ H _ I want) fun us z ⟨vs, G, J, r, q⟩ => ⟨J.kIn, callee F room hb hd hx J r q⟩) he hp
theorem pe_callG0 (F : FnG X.prog X.w X.K X.mg X.base CX k f fd ps sp) (room : RoomG k X.A) (hg : Gl X x) (hm : X.mg x = some (.ref f)) (hk : PySem.W.keepIn X.K (.ref f) = true) (hb : Binds X.K fd ps ds) (hd : Vals dvs ds) (hx : Passes CX X E)
    (nd : (x == ("__debug__" : Str)) = false := by decide) : PE X (.Call (.Name x p) [] [] pos) (tCall sp dvs E tNil) := by
  constructor
  intro pins s σ H Q I want
  exact wpAny_Call_Name_kw (ld_glob I hg hm (PySem.W.callWith_K0 I.kIn hk (callee (us := []) F room hb hd hx I .nil want)) nd)
end

/-- the law's call at the outermost place: the script is a list of nums; nothing is repr'd -/
theorem law_end {P : Program} {w : World} {K : PySem.W.Frag} {mg mb : Str → Option Value} {CX : CXT} {k : Nat} {fa a : Addr} {fd : FuncData} {x : Str} {sp : Sp} {z : Shared} {vs : List Value} {ns : List Int}
    (inK : K.In z.heap) (glo : z.heap.Ns mainGlobals mg) (blt : z.heap.Ns builtinsNs mb) (boot : ∀ y : Str, y ≠ "__name__" → mb y = bootBuiltins y) (lim : z.heap.NoLimit) (bare : z.gens = #[])
    (ha : z.heap.get? a = some { cls := .type "list", data := .seq vs.toArray }) (nums : IntsAre vs ns) (small : ns.length ≤ sizeLine) (room : Room k callerA)
    (F : ∀ base : Heap, K.In base → base.Ns mainGlobals mg → FnG P w K mg base CX k fa fd [x] sp) (bind : ∀ (s : Shared) (u : Value), BindsTo s fd ⟨[u], []⟩ [(x, u)])
    (want : ∀ H : Hp, SqL K H a (ns.map V.int) → sp [.ref a] H (fun v _ => v = .bl true) fun _ _ _ => False)
    (none_out : ∀ H e s', CX [] H z (fun _ _ _ => False) e s' → False) :
    codeAny (model P w) callerA (.call (.ref fa) ⟨[.ref a], []⟩) (fun r s' => r = .ok (.ret (.bool true)) ∧ OldK z.heap s'.heap ∧ s'.os = z.os ∧ AllBare s'.gens) z := by
  have rel := vals_ints nums
  -- at an abstract heap that tracks the script at most, as a locked list
  suffices core : ∀ H : Hp, (∀ b u, H b = some u → b = a ∧ K.lookup a = none ∧ ∃ o xs, u = .frz o (.lst xs)) → SqL K H a (ns.map V.int) → HOk P w H z.heap →
      codeAny (model P w) callerA (.call (.ref fa) ⟨[.ref a], []⟩) (fun r s' => r = .ok (.ret (.bool true)) ∧ OldK z.heap s'.heap ∧ s'.os = z.os ∧ AllBare s'.gens) z by
    cases there : K.lookup a with
    | some o =>
      have same := inK a o there
      rw [ha] at same
      cases same
      refine core (fun _ => none) (fun b u q => by cases (show (none : Option HO) = some u from q)) (Or.inr ⟨_, vs.toArray, _, there, rfl, rfl, rfl, ?_, by simpa using rel⟩) fun b u q => by cases (show (none : Option HO) = some u from q)
      have := nums.length
      simp only [List.size_toArray]
      omega
    | none =>
      have only : ∀ b u, (if b = a then some (HO.frz { cls := .type "list", data := .seq vs.toArray } (.lst (ns.map V.int))) else none) = some u → b = a ∧ u = HO.frz { cls := .type "list", data := .seq vs.toArray } (.lst (ns.map V.int)) := by
        intro b u q
        by_cases hb : b = a
        · rw [if_pos hb] at q
          exact ⟨hb, (Option.some.inj q).symm⟩
        · rw [if_neg hb] at q
          cases q
      refine core (fun b => if b = a then some (.frz { cls := .type "list", data := .seq vs.toArray } (.lst (ns.map V.int))) else none) (fun b u q => ?_) (Or.inl (Or.inr ⟨_, if_pos rfl⟩)) fun b u q => ?_
      · obtain ⟨e1, e2⟩ := only b u q
        exact ⟨e1, there, _, _, e2⟩
      · obtain ⟨e1, e2⟩ := only b u q
        subst e1
        subst e2
        exact ⟨ha, by rw [List.length_map]; exact small, vs, _, rel, ha⟩
  intro H tracked script ok
  have kept : ∀ {b : Addr} {o : Obj}, z.heap.get? b = some o → H b = none → (hidT z.heap H).get? b = some o := fun e n => hidT_get e n
  have noDict : ∀ {b : Addr} {o : Obj} {es : Array DictEntry} {ep : Nat}, z.heap.get? b = some o → o.data = .dict es ep → H b = none := by
    intro b o es ep e d
    cases q : H b with
    | none => rfl
    | some u =>
      obtain ⟨rfl, _, _⟩ := tracked b u q
      rw [ha] at e
      cases e
      cases d
  have nsOf : ∀ {b : Addr} {m : Str → Option Value}, z.heap.Ns b m → (hidT z.heap H).Ns b m := by
    rintro b m ⟨o, es, ep, e, d, r⟩
    exact ⟨o, es, ep, kept e (noDict e d), d, r⟩
  have inB : K.In (hidT z.heap H) := by
    intro b o e
    refine kept (inK b o e) ?_
    cases q : H b with
    | none => rfl
    | some u =>
      obtain ⟨rfl, none', _⟩ := tracked b u q
      rw [none'] at e
      cases e
  have md : Mod K mg (hidT z.heap H) := ⟨inB, nsOf glo, ⟨mb, nsOf blt, boot⟩, by obtain ⟨mc, h1, h2⟩ := lim; exact ⟨mc, nsOf h1, h2⟩⟩
  have env : Env0 P w K mg (hidT z.heap H) callerA [] z H :=
    ⟨rfl, md, fun b o e => of_hidT e, Nat.le_of_eq (hidT_size _ _), trivial, (fun b hb => nomatch hb), ok, .of_eq bare⟩
  refine codeAny_mono ((F _ inB (nsOf glo)).goes callerA [] z H ⟨[.ref a], []⟩ [.ref a] [.ref a] _ _ ⟨room, rfl⟩ env (bind z (.ref a)) (.cons rfl .nil) (want H script)) ?_
  intro res s' h
  match res, h with
  | .error e, h => exact (none_out H e s' h).elim
  | .ok (.ret u), h =>
    obtain ⟨v, G, os, br, un, ok', rv, q⟩ := h
    have q' : v = .bl true := q
    subst q'
    have eu : u = Value.bool true := rv
    subst eu
    refine ⟨rfl, OldK.of_keep fun b o e => ?_, os, br⟩
    cases hq : H b with
    | none => exact un.keep b o e hq (fun t => nomatch t) (fun t => nomatch t)
    | some t =>
      obtain ⟨rfl, _, ob, xs, rfl⟩ := tracked b t hq
      have later := ok' b _ (un.frzs b ob _ hq)
      have now := ok b _ hq
      obtain ⟨g1, _⟩ := now
      obtain ⟨g2, _⟩ := later
      rw [e] at g1
      cases g1
      exact g2

theorem law_walk {l : PySem.W.OpenLaw} {n k : Nat} {q : Program} {loose : List Str} {XP : (Str → Option Value) → Heap → Prop} {YP : World → Heap → Prop} {d : DefRec} {K : Params → PySem.W.Frag} {CX : World → CXT} {sp : World → Sp} {x : Str}
    (most : l.most = some n) (small : n ≤ sizeLine) (plain : d.params.defaults = []) (room : Room k callerA) (inK : ∀ (w : World) (h : Heap), YP w h → (K w.params).In h)
    (F : ∀ (w : World) (mg : Str → Option Value) (fa : Addr) (h : Heap), (K w.params).In h → h.Ns mainGlobals mg → mg d.name = some (.ref fa) →
      ∃ fd : FuncData, (∀ (s : Shared) (u : Value), BindsTo s fd ⟨[u], []⟩ [(x, u)]) ∧ ∀ base : Heap, (K w.params).In base → base.Ns mainGlobals mg → FnG l.prog w (K w.params) mg base (CX w) k fa fd [x] (sp w))
    (want : ∀ (w : World) (H : Hp) (a : Addr) (ns : List Int), ns.length ≤ n → SqL (K w.params) H a (ns.map V.int) → sp w [.ref a] H (fun v _ => v = .bl true) fun _ _ _ => False)
    (none_out : ∀ (w : World) (H : Hp) (s : Shared) (e : Value) (s' : Shared), CX w [] H s (fun _ _ _ => False) e s' → False) :
    PySem.W.WalkO q loose XP YP l.row.toRowW d [] (fun f vs => PySem.call f vs) := by
  refine Att.attach_call most plain ?_
  intro w s₀ z mg mb fa o pm cd doc a vs ns G Y ho hd hcd hmg hobj hints hlen hg
  obtain ⟨fd, hb, hF⟩ := F w mg fa _ (inK w _ Y) G.T.g hmg
  exact law_end (inK w _ Y) G.T.g G.T.b G.T.builtins G.T.nolimit hg hobj hints (Nat.le_trans hlen small) room hF hb (fun H hS => want w H a ns hlen hS) fun H e s' => none_out w H z e s'
end G9

/-! Further rules: powers, repr of data, a text many times, rows of constants; readings step by step. -/
namespace G9
open PySem PySem.Spec PyProof.Rows L2
section
variable {X : Cx} {a b c e : Expr} {ta tb tc : TE} {pos : Pos}

def CPowW (i j : Int) : Prop := 0 ≤ j ∧ (Builtin.Int.intBits i : Int) * j ≤ 2 ^ 27
instance {i j : Int} : Decidable (CPowW i j) := inferInstanceAs (Decidable (0 ≤ j ∧ (Builtin.Int.intBits i : Int) * j ≤ 2 ^ 27))
theorem op_powW : OpR X (binaryOp .Pow) (rI CPowW fun i j => .int (i ^ j.toNat)) := opI fun _ _ _ _ _ _ _ c q => pow_int c.1 c.2 q

theorem rep_size {α : Type} (a : Array α) : ∀ (n : Nat) (b : Array α), ((List.replicate n a).foldl (· ++ ·) b).size = b.size + n * a.size
  | 0, b => by simp
  | n + 1, b => by
    rw [List.replicate_succ, List.foldl_cons, rep_size a n (b ++ a), Array.size_append, Nat.add_mul, Nat.one_mul]
    omega
theorem rep_mem {α : Type} {a : Array α} {x : α} : ∀ {n : Nat} {b : Array α}, x ∈ ((List.replicate n a).foldl (· ++ ·) b).toList → x ∈ b.toList ∨ x ∈ a.toList
  | 0, b, h => Or.inl h
  | n + 1, b, h => by
    rw [List.replicate_succ, List.foldl_cons] at h
    rcases rep_mem h with h | h
    · rw [Array.toList_append] at h
      exact List.mem_append.mp h
    · exact Or.inr h
/-- a text n times, 2 ≤ n -/
def rTimes : R2 := fun x y H Q => ∃ (z : Str) (n : Nat), x = .str z ∧ y = .int (n : Int) ∧ 2 ≤ n ∧ 1 ≤ z.length ∧ z.length * n ≤ 1000000 ∧ Q (.str ⟨(List.replicate n z.cps).foldl (· ++ ·) #[]⟩) H
theorem op_times : OpR X (binaryOp .Mult) rTimes := by
  intro pins s σ H x y v u Q I rx ry h
  obtain ⟨z, n, rfl, rfl, h2, h1, hz, q⟩ := h
  obtain ⟨t, rfl⟩ := rx
  obtain ⟨t', rfl⟩ := ry
  have hn : n ≤ 1000000 := Nat.le_trans (Nat.le_mul_of_pos_left n h1) hz
  have n1 : ¬ ((n : Int) < 1) := by omega
  have n2 : (((n : Int) == 1) || z.length == 0) = false := by
    have e1 : ((n : Int) == 1) = false := by
      rw [beq_eq_false_iff_ne]
      omega
    have e2 : (z.length == 0) = false := by
      rw [beq_eq_false_iff_ne]
      omega
    rw [e1, e2]
    rfl
  have zl : z.length ≤ 1000000 := Nat.le_trans (Nat.le_mul_of_pos_right z.length (by omega)) hz
  refine PySem.P.mul_str ?_ (fun _ _ => ?_) (fun _ _ => ?_) ?_
  · rw [decide_eq_false (by omega), decide_eq_false (by omega)]
    rfl
  · have hd : (1000000 : Int) ≤ (2 ^ 63 - 1) / (n : Int) := by
      rw [Int.le_ediv_iff_mul_le (by omega)]
      omega
    omega
  · show decide (z.length * (n : Int).toNat > sizeLine) = false
    rw [sizeLine_eq]
    simp only [Int.toNat_natCast]
    exact decide_eq_false (by omega)
  · rw [if_neg n1, if_neg (by rw [n2]; exact Bool.false_ne_true), Int.toNat_natCast]
    refine ⟨?_, ⟨.str _, H, I.tok _, ⟨_, rfl⟩, q⟩⟩
    show ((List.replicate n z.cps).foldl (· ++ ·) #[]).size ≤ sizeLine
    rw [rep_size, sizeLine_eq]
    have e : z.length = z.cps.size := rfl
    rw [Nat.mul_comm n, ← e]
    show 0 + z.length * n ≤ 16777216
    omega

/-- repr of a list or a tuple of data -/
def rRepr (K : PySem.W.Frag) : List V → Hp → VK → Prop := fun xs H Q => ∃ (p : Addr) (d : PyData), xs = [.ref p] ∧ Dp K H (.ref p) d ∧ d.showable = true ∧ d.hasDict = false ∧ d.depth ≤ 60 ∧ d.shown.length ≤ sizeLine ∧ Q (.str d.shown) H
theorem call_reprD {k : Nat} (room : RoomG k X.A) : CallR X (.builtin "repr") (rRepr X.K) := by
  intro pins s σ H xs us Q I r h
  obtain ⟨p, d, rfl, hd, h1, h2, h3, h4, q⟩ := h
  obtain ⟨u, rfl, r1⟩ := vals1 r
  obtain ⟨as, rd⟩ := Dp.reads I d _ _ hd r1
  have eu : u = Value.ref p := r1
  subst eu
  have un := room.r.units
  exact repr_of_reads' rd h1 (fun z => by rw [h2] at z; cases z) room.g (by omega) (fun _ _ z => z) (fun h' t tk k => ⟨.str d.shown, H, I.kept k, ⟨t, rfl⟩, q⟩) h4

theorem pe_tyV {x : Str} {n : String} (hg : Gl X x) (hm : X.mg x = none) (hv : bootBuiltins x = some (.type n)) (h1 : x ≠ "__name__" := by decide) (h2 : (x == ("__debug__" : Str)) = false := by decide) : PE X (.Name x pos) (tC (.ty n)) := pe_bltn hg hm hv rfl h1 h2
/-- // by a positive divisor below 2^64 -/
def CDivW (i j : Int) : Prop := 0 < j ∧ j < 18446744073709551616
theorem op_fdivW : OpR X (binaryOp .FloorDiv) (rI CDivW fun i j => .int (i / j)) := opI fun i j _ _ _ _ _ hc q => by
  have h1 : (0 : Int) < j := hc.1
  have h2 : j < 18446744073709551616 := hc.2
  refine floordiv_int (by omega) (by rw [Int.fdiv_eq_ediv_of_nonneg i (by omega)]; exact q) (.inl (PyProof.noPylong_of_log2 ?_))
  have h3 : j.natAbs < 2 ^ 64 := by omega
  have h4 : j.natAbs ≠ 0 := by omega
  exact Nat.lt_trans ((Nat.log2_lt h4).mpr h3) (by decide)
/-! ### rows of constants -/
def cV : Expr → Option V
  | .Constant (.int i) _ _ => some (.int i)
  | .Constant (.bool k) _ _ => some (.bl k)
  | .Constant .none _ _ => some .non
  | .Constant (.str z) _ _ => some (.str z)
  | _ => none
def cVs : List Expr → Option (List V)
  | [] => some []
  | e :: es => match cV e, cVs es with
    | some v, some vs => some (v :: vs)
    | _, _ => none
def tConsts (vs : List V) : TA := fun _ H Q => Q vs H
theorem pe_const {e : Expr} {v : V} (h : cV e = some v) : PE X e (tC v) := by
  unfold cV at h
  split at h
  · cases h; exact pe_int
  · cases h; exact pe_bl
  · cases h; exact pe_non
  · cases h; exact pe_str
  · cases h
theorem star_const {e : Expr} {v : V} (h : cV e = some v) (es : List Expr) (env : Env) : starEach (e :: es) env = (false, eval e env) :: starEach es env := by
  unfold cV at h
  split at h
  · rfl
  · rfl
  · rfl
  · rfl
  · cases h
theorem pa_consts : ∀ {es : List Expr} {vs : List V}, cVs es = some vs → PA X es (tConsts vs)
  | [], vs, h => by
    cases h
    exact pa_nil
  | e :: es, vs, h => by
    unfold cVs at h
    split at h
    · rename_i v vs' h1 h2
      cases h
      exact pa_cons (pe_const h1) (pa_consts h2) (star_const h1 es X.env)
    · cases h

/-! ### readings with names -/
def rInt : List V → Hp → VK → Prop := fun xs H Q => (∃ i, xs = [.int i] ∧ Q (.int i) H) ∨ ∃ k, xs = [.bl k] ∧ Q (.int (if k then 1 else 0)) H
theorem c_int : CallR X (.type "int") rInt := call_int1
def rAbs : List V → Hp → VK → Prop := fun xs H Q => ∃ i, xs = [.int i] ∧ Q (.int (if i < 0 then -i else i)) H
theorem c_abs : CallR X (.builtin "abs") rAbs := call_abs
def rMax2 : List V → Hp → VK → Prop := fun xs H Q => ∃ i j, xs = [.int i, .int j] ∧ Q (.int (if j > i then j else i)) H
theorem c_max2 (hc : X.calm = true) : CallR X (.builtin "max") rMax2 := call_max2 hc
def rMin2 : List V → Hp → VK → Prop := fun xs H Q => ∃ i j, xs = [.int i, .int j] ∧ Q (.int (if j < i then j else i)) H
theorem c_min2 (hc : X.calm = true) : CallR X (.builtin "min") rMin2 := call_min2 hc
def rLen (K : PySem.W.Frag) : List V → Hp → VK → Prop := fun xs H Q => ∃ x n, xs = [x] ∧ LenV K x H n ∧ Q (.int (n : Nat)) H
theorem c_len : CallR X (.builtin "len") (rLen X.K) := call_len
def rAddStr : R2 := fun x y H Q => ∃ i j, x = .str i ∧ y = .str j ∧ i.length + j.length ≤ sizeLine ∧ Q (.str (i ++ j)) H
theorem o_addS : OpR X (binaryOp .Add) rAddStr := op_add_str
def rLeStr : R2 := fun x y H Q => ∃ i j, x = .str i ∧ y = .str j ∧ Q (.bl (!decide (j.cps.toList < i.cps.toList))) H
theorem o_leS : OpR X (compareOp .LtE) rLeStr := op_le_str
def rListOf (K : PySem.W.Frag) : List V → Hp → VK → Prop := fun xs H Q => ∃ p ys, xs = [.ref p] ∧ (SqL K H p ys ∨ SqT K H p ys) ∧ ∀ l, H l = none → Q (.ref l) (upd H l (.lst ys))
theorem c_list : CallR X (.type "list") (rListOf X.K) := call_list_of
def rInS : R2 := fun x y H Q => ∃ (c : Nat) (z : Str), x = .str ⟨#[c]⟩ ∧ y = .str z ∧ Q (.bl (decide (c ∈ z.cps.toList))) H
theorem o_inS : OpR X (compareOp .In) rInS := op_in_sign
def rNinS : R2 := fun x y H Q => ∃ (c : Nat) (z : Str), x = .str ⟨#[c]⟩ ∧ y = .str z ∧ Q (.bl (!decide (c ∈ z.cps.toList))) H
theorem o_ninS : OpR X (compareOp .NotIn) rNinS := op_notIn_sign
end

/-! ### readings, step by step -/
section
variable {K : PySem.W.Frag} {σ : L2.St} {H : Hp} {ta tb tc te : TE} {t u : TT} {tar : TA} {x y z v : V} {r r' : R2} {Q : VK} {D : Ends} {s1 s2 : TS} {g : TG} {sp : Sp} {dvs : List V} {E : XK}
theorem s_var {i : Nat} (h : σ[i]? = some (some v)) (q : Q v H) : tVar i σ H Q := ⟨v, h, q⟩
theorem s_c (q : Q v H) : tC v σ H Q := q
theorem s_op (q : ta σ H fun x H1 => tb σ H1 fun y H2 => r x y H2 Q) : tOp r ta tb σ H Q := q
theorem s_un {rr : V → Hp → VK → Prop} (q : ta σ H fun x H1 => rr x H1 Q) : tUn rr ta σ H Q := q
theorem s_cb {rr : List V → Hp → VK → Prop} (q : tar σ H fun vs H1 => rr vs H1 Q) : tCB rr tar σ H Q := q
theorem s_nil {Q : List V → Hp → Prop} (q : Q [] H) : tNil σ H Q := q
theorem s_cons {Q : List V → Hp → Prop} (q : te σ H fun x H1 => tar σ H1 fun xs H2 => Q (x :: xs) H2) : tCons te tar σ H Q := q
theorem s_consts {vs : List V} {Q : List V → Hp → Prop} (q : Q vs H) : tConsts vs σ H Q := q
theorem s_call (q : tar σ H fun vs H1 => sp (vs ++ dvs) H1 Q E) : tCall sp dvs E tar σ H Q := q
def NewL (xs : List V) (H1 : Hp) (Q : VK) : Prop := xs.length ≤ sizeLine ∧ ∀ p, H1 p = none → Q (.ref p) (upd H1 p (.lst xs))
def NewT (xs : List V) (H1 : Hp) (Q : VK) : Prop := xs.length ≤ sizeLine ∧ ∀ p, H1 p = none → Q (.ref p) (upd H1 p (.tup xs))
theorem s_lst (q : tar σ H fun xs H1 => NewL xs H1 Q) : tLst tar σ H Q := q
theorem s_tup (q : tar σ H fun xs H1 => NewT xs H1 Q) : tTup tar σ H Q := q
theorem same0 {H : Hp} {p : Addr} {o : HO} (n : H p = none) : L2.Same H (upd H p o) := fun b u z => by
  rw [upd_ne (ne_of_none z n)]
  exact z
theorem l_newL {xs : List V} (h : xs.length ≤ sizeLine) (k : ∀ p G, H p = none → L2.Same H G → G p = some (.lst xs) → Q (.ref p) G) : NewL xs H Q := ⟨h, fun p n => k p _ n (same0 n) upd_same⟩
theorem l_newT {xs : List V} (h : xs.length ≤ sizeLine) (k : ∀ p G, H p = none → L2.Same H G → G p = some (.tup xs) → Q (.ref p) G) : NewT xs H Q := ⟨h, fun p n => k p _ n (same0 n) upd_same⟩
theorem s_seq (q : s1 { D with nx := s2 D } σ H) : tSeq s1 s2 D σ H := q
theorem s_asg (q : te σ H fun x H1 => g x σ H1 D.nx) : tAsg te g D σ H := q
theorem s_name {i : Nat} {Q : L2.St → Hp → Prop} (q : Q (σ.set i (some v)) H) : gName i v σ H Q := q
theorem s_ret (q : te σ H D.rt) : tRet te D σ H := q
theorem s_next (q : D.nx σ H) : tNext D σ H := q
theorem s_drop (q : te σ H fun _ H1 => D.nx σ H1) : tDrop te D σ H := q
theorem s_if (q : t σ H fun b H1 => if b = true then s1 D σ H1 else s2 D σ H1) : tIfS t s1 s2 D σ H := q
theorem s_ifE (q : t σ H fun b H1 => if b = true then ta σ H1 Q else tb σ H1 Q) : tIf t ta tb σ H Q := q
theorem s_tb {Q : Bool → Hp → Prop} (q : te σ H fun x H1 => ∃ k, x = .bl k ∧ Q k H1) : tB te σ H Q := q
theorem s_test {Q : Bool → Hp → Prop} (q : te σ H fun x H1 => ∃ k, x = .bl k ∧ Q k H1) : tTest te σ H Q := q
theorem s_yes {Q : Bool → Hp → Prop} (q : Q true H) : tYes σ H Q := q
theorem s_not {Q : Bool → Hp → Prop} (q : t σ H fun b H1 => Q (!b) H1) : tNot t σ H Q := q
theorem s_and {Q : Bool → Hp → Prop} (q : t σ H fun b H1 => if b = true then u σ H1 Q else Q false H1) : tAnd t u σ H Q := q
theorem s_or {Q : Bool → Hp → Prop} (q : t σ H fun b H1 => if b = true then Q true H1 else u σ H1 Q) : tOr t u σ H Q := q
theorem s_andV (q : ta σ H fun x H1 => ∃ k, x = .bl k ∧ if k = true then tb σ H1 Q else Q (.bl false) H1) : tAndV ta tb σ H Q := q
theorem s_orV (q : ta σ H fun x H1 => ∃ k, x = .bl k ∧ if k = true then Q (.bl true) H1 else tb σ H1 Q) : tOrV ta tb σ H Q := q
theorem s_notV (q : ta σ H fun x H1 => ∃ k, x = .bl k ∧ Q (.bl (!k)) H1) : tNotV ta σ H Q := q
theorem s_chain (q : ta σ H fun x H1 => tb σ H1 fun y H2 => r x y H2 fun z H3 => ∃ k, z = .bl k ∧ (if k = true then tc σ H3 fun w H4 => r' y w H4 Q else Q (.bl false) H3)) : tChain r r' ta tb tc σ H Q := q
-- leaves
theorem l_bl {b : Bool} {P : Bool → Prop} (q : P b) : ∃ k, V.bl b = V.bl k ∧ P k := ⟨b, rfl, q⟩
theorem l_I0 {f : Int → Int → V} {i j : Int} (q : Q (f i j) H) : rI0 f (.int i) (.int j) H Q := ⟨i, j, rfl, rfl, q⟩
theorem l_I {C : Int → Int → Prop} {f : Int → Int → V} {i j : Int} (c : C i j) (q : Q (f i j) H) : rI C f (.int i) (.int j) H Q := ⟨i, j, rfl, rfl, c, q⟩
theorem l_U {f : Int → V} {i : Int} (q : Q (f i) H) : rU f (.int i) H Q := ⟨i, rfl, q⟩
theorem l_eq (c : scal x y = true) (q : Q (.bl (decide (x = y))) H) : rEq x y H Q := ⟨c, q⟩
theorem l_ne (c : scal x y = true) (q : Q (.bl (!decide (x = y))) H) : rNe x y H Q := ⟨c, q⟩
-- ifs
theorem i_dec {c A B : Prop} [Decidable c] (h1 : c → A) (h2 : ¬ c → B) : if decide c = true then A else B := by
  by_cases h : c
  · rw [if_pos (decide_eq_true h)]
    exact h1 h
  · rw [if_neg (by rw [decide_eq_false h]; exact Bool.false_ne_true)]
    exact h2 h
theorem i_b {b : Bool} {A B : Prop} (h1 : b = true → A) (h2 : b = false → B) : if b = true then A else B := by
  cases b with
  | true => exact h1 rfl
  | false => exact h2 rfl
theorem i_t {b : Bool} {A B : Prop} (e : b = true) (h : A) : if b = true then A else B := by
  subst e
  exact h
theorem i_f {b : Bool} {A B : Prop} (e : b = false) (h : B) : if b = true then A else B := by
  subst e
  exact h

theorem l_int1 {i : Int} (q : Q (.int i) H) : rInt [.int i] H Q := Or.inl ⟨i, rfl, q⟩
theorem l_int1b {b : Bool} (q : Q (.int (if b then 1 else 0)) H) : rInt [.bl b] H Q := Or.inr ⟨b, rfl, q⟩
theorem l_abs {i : Int} (q : Q (.int (if i < 0 then -i else i)) H) : rAbs [.int i] H Q := ⟨i, rfl, q⟩
theorem l_max2 {i j : Int} (q : Q (.int (if j > i then j else i)) H) : rMax2 [.int i, .int j] H Q := ⟨i, j, rfl, q⟩
theorem l_min2 {i j : Int} (q : Q (.int (if j < i then j else i)) H) : rMin2 [.int i, .int j] H Q := ⟨i, j, rfl, q⟩
theorem l_lenL {p : Addr} {xs : List V} (h : SqL K H p xs) (q : Q (.int (xs.length : Nat)) H) : rLen K [.ref p] H Q := ⟨_, _, rfl, Or.inl ⟨xs, h, rfl⟩, q⟩
theorem l_lenT {p : Addr} {xs : List V} (h : SqT K H p xs) (q : Q (.int (xs.length : Nat)) H) : rLen K [.ref p] H Q := ⟨_, _, rfl, Or.inr ⟨xs, h, rfl⟩, q⟩
theorem l_lenS {y : Str} (h : y.length ≤ sizeLine) (q : Q (.int (y.length : Nat)) H) : rLen K [.str y] H Q := ⟨_, _, rfl, ⟨h, rfl⟩, q⟩
theorem l_addS {y z : Str} (h : y.length + z.length ≤ sizeLine) (q : Q (.str (y ++ z)) H) : rAddStr (.str y) (.str z) H Q := ⟨y, z, rfl, rfl, h, q⟩
theorem l_leS {y z : Str} (q : Q (.bl (!decide (z.cps.toList < y.cps.toList))) H) : rLeStr (.str y) (.str z) H Q := ⟨y, z, rfl, rfl, q⟩
theorem l_listL {p : Addr} {xs : List V} (h : SqL K H p xs) (q : ∀ l G, H l = none → L2.Same H G → G l = some (.lst xs) → Q (.ref l) G) : rListOf K [.ref p] H Q := ⟨p, xs, rfl, Or.inl h, fun l n => q l _ n (same0 n) upd_same⟩
theorem l_listT {p : Addr} {xs : List V} (h : SqT K H p xs) (q : ∀ l G, H l = none → L2.Same H G → G l = some (.lst xs) → Q (.ref l) G) : rListOf K [.ref p] H Q := ⟨p, xs, rfl, Or.inr h, fun l n => q l _ n (same0 n) upd_same⟩
theorem l_ixL {p : Addr} {xs : List V} {i : Int} (h : SqL K H p xs) (a : atI xs i = some v) (q : Q v H) : rIxL K (.ref p) (.int i) H Q := ⟨p, xs, i, v, rfl, rfl, h, a, q⟩
theorem at_in {xs : List V} {i : Int} (h0 : 0 ≤ i) (h1 : i < (xs.length : Int)) : ∃ x, x ∈ xs ∧ xs[i.toNat]? = some x ∧ atI xs i = some x := by
  have hl : i.toNat < xs.length := by omega
  refine ⟨xs[i.toNat], List.getElem_mem hl, List.getElem?_eq_getElem hl, ?_⟩
  have e : atI xs ((i.toNat : Nat) : Int) = some xs[i.toNat] := atI_nat (List.getElem?_eq_getElem hl)
  rwa [Int.toNat_of_nonneg h0] at e

/-! ### heaps: what is kept -/
/-- all but the object at d is kept -/
def Keep (d : Addr) (H G : Hp) : Prop := ∀ b o, b ≠ d → H b = some o → G b = some o
theorem Keep.refl {d : Addr} (H : Hp) : Keep d H H := fun _ _ _ z => z
theorem Keep.trans {d : Addr} {H G J : Hp} (a : Keep d H G) (b : Keep d G J) : Keep d H J := fun x o n z => b x o n (a x o n z)
theorem Keep.of {d : Addr} {H G : Hp} (a : Same H G) : Keep d H G := fun b o _ z => a b o z
theorem Keep.new {d p : Addr} {H G : Hp} {o : HO} (a : Keep d H G) (n : G p = none) : Keep d H (upd G p o) := fun b u nd z => by
  have k := a b u nd z
  rw [upd_ne (ne_of_none k n)]
  exact k
theorem Keep.set {d : Addr} {H G : Hp} {o : HO} (a : Keep d H G) : Keep d H (upd G d o) := fun b u nd z => by
  rw [upd_ne nd]
  exact a b u nd z
theorem Same.new {H G : Hp} {p : Addr} {o : HO} (a : Same H G) (n : G p = none) : Same H (upd G p o) := fun b u z => by
  have k := a b u z
  rw [upd_ne (ne_of_none k n)]
  exact k
theorem Same.upd0 {H : Hp} {p : Addr} {o : HO} (n : H p = none) : Same H (upd H p o) := Same.new (Same.refl H) n
/-- an object unknown to H may be set -/
theorem Same.setNew {H G : Hp} {p : Addr} {o : HO} (a : Same H G) (n : H p = none) : Same H (upd G p o) := fun b u z => by
  rw [upd_ne (ne_of_none z n)]
  exact a b u z
theorem rd_keep {d a : Addr} {H G : Hp} {u : HO} (k : Keep d H G) (n : a ≠ d) (h : Rd H a u) : Rd G a u := by
  rcases h with h | ⟨o, h⟩
  · exact Or.inl (k _ _ n h)
  · exact Or.inr ⟨o, k _ _ n h⟩
theorem sql_keep {d a : Addr} {H G : Hp} {xs : List V} (k : Keep d H G) (n : a ≠ d) (h : SqL K H a xs) : SqL K G a xs := by
  rcases h with h | h
  · exact Or.inl (rd_keep k n h)
  · exact Or.inr h
theorem sqt_keep {d a : Addr} {H G : Hp} {xs : List V} (k : Keep d H G) (n : a ≠ d) (h : SqT K H a xs) : SqT K G a xs := by
  rcases h with h | h
  · exact Or.inl (rd_keep k n h)
  · exact Or.inr h
theorem sqt_same {a : Addr} {H G : Hp} {xs : List V} (k : Same H G) (h : SqT K H a xs) : SqT K G a xs := by
  rcases h with (h | ⟨o, h⟩) | h
  · exact Or.inl (Or.inl (k _ _ h))
  · exact Or.inl (Or.inr ⟨o, k _ _ h⟩)
  · exact Or.inr h
/-! ### dice: three ints in a list -/
def DiceAt (H : Hp) (d : Addr) : Prop := ∃ a b c : Int, H d = some (.lst [.int a, .int b, .int c])
/-- since H the dice at d have been rolled, new things have been made -/
structure Dc (d : Addr) (H G : Hp) : Prop where
  keep : Keep d H G
  dice : DiceAt G d
theorem Dc.refl {d : Addr} {H : Hp} (h : DiceAt H d) : Dc d H H := ⟨Keep.refl H, h⟩
theorem Dc.trans {d : Addr} {H G J : Hp} (a : Dc d H G) (b : Dc d G J) : Dc d H J := ⟨a.keep.trans b.keep, b.dice⟩
theorem DiceAt.ne {d p : Addr} {H : Hp} (h : DiceAt H d) (n : H p = none) : d ≠ p := by
  obtain ⟨_, _, _, e⟩ := h
  exact ne_of_none e n
theorem DiceAt.same {d : Addr} {H G : Hp} (h : DiceAt H d) (s : Same H G) : DiceAt G d := by
  obtain ⟨a, b, c, e⟩ := h
  exact ⟨a, b, c, s _ _ e⟩
theorem Dc.new {d p : Addr} {H G : Hp} {o : HO} (a : Dc d H G) (n : G p = none) : Dc d H (upd G p o) := by
  refine ⟨a.keep.new n, ?_⟩
  obtain ⟨x, y, z, e⟩ := a.dice
  exact ⟨x, y, z, by rw [upd_ne (ne_of_none e n)]; exact e⟩
theorem Dc.same {d : Addr} {H G J : Hp} (a : Dc d H G) (s : Same G J) : Dc d H J := ⟨a.keep.trans (Keep.of s), a.dice.same s⟩
end

section
variable {K : PySem.W.Frag} {σ : L2.St} {H : Hp} {ta tb tc te tl : TE} {t u : TT} {tar : TA} {x y z v : V} {r r' : R2} {Q : VK} {D : Ends} {s1 s2 tbd : TS} {g : TG} {j : Nat} {vs : List Nat}
theorem s_sub {ti : TE} {st : TSet} {Q : L2.St → Hp → Prop} (q : ta σ H fun o H1 => ti σ H1 fun i H2 => st o i v H2 fun H3 => Q σ H3) : gSub ta ti st v σ H Q := q
theorem s_gnil {Q : L2.St → Hp → Prop} (q : Q σ H) : gNil [] σ H Q := ⟨rfl, q⟩
theorem s_gcons {us : TGs} {w : V} {ws : List V} {Q : L2.St → Hp → Prop} (q : g w σ H fun τ G => us ws τ G Q) : gCons g us (w :: ws) σ H Q := ⟨w, ws, rfl, q⟩
theorem l_gtup {n : Nat} {us : TGs} {p : Addr} {xs : List V} {Q : L2.St → Hp → Prop} (h : SqT K H p xs) (e : xs.length = n) (q : us xs σ H Q) : gTup K n us (.ref p) σ H Q := ⟨p, xs, rfl, h, e, q⟩
theorem s_slice {rr : V → Option Int → Option Int → Hp → VK → Prop} {lo hi : TO} (q : te σ H fun x H1 => lo σ H1 fun l H2 => hi σ H2 fun w H3 => rr x l w H3 Q) : tSl rr te lo hi σ H Q := q
theorem s_nopart {Q : Option Int → Hp → Prop} (q : Q none H) : tNoPart σ H Q := q
def rPart (Q : Option Int → Hp → Prop) : V → Hp → Prop := fun x H1 => ∃ i, x = .int i ∧ Q (some i) H1
theorem s_part {Q : Option Int → Hp → Prop} (q : te σ H fun x H1 => rPart Q x H1) : tPart te σ H Q := q
theorem l_part {i : Int} {Q : Option Int → Hp → Prop} (q : Q (some i) H) : rPart Q (.int i) H := ⟨i, rfl, q⟩
theorem l_slS {y : Str} {lo hi : Option Int} (h : y.length ≤ sizeLine) (q : Q (.str (cutS y lo hi)) H) : rSlS (.str y) lo hi H Q := ⟨y, rfl, h, q⟩
theorem l_ixS {y : Str} {i : Int} {c : Nat} (h : y.length ≤ sizeLine) (e : atI y.cps.toList i = some c) (q : Q (.str ⟨#[c]⟩) H) : rIxS (.str y) (.int i) H Q := ⟨y, i, c, rfl, rfl, h, e, q⟩
theorem l_inS {c : Nat} {y : Str} (q : Q (.bl (decide (c ∈ y.cps.toList))) H) : rInS (.str ⟨#[c]⟩) (.str y) H Q := ⟨c, y, rfl, rfl, q⟩
theorem l_ninS {c : Nat} {y : Str} (q : Q (.bl (!decide (c ∈ y.cps.toList))) H) : rNinS (.str ⟨#[c]⟩) (.str y) H Q := ⟨c, y, rfl, rfl, q⟩
theorem l_all {p : Addr} {bs : List Bool} (h : SqL K H p (bs.map V.bl)) (q : Q (.bl (bs.all id)) H) : rAll K [.ref p] H Q := ⟨p, bs, rfl, h, q⟩
theorem l_eqD {d e : PyData} (hd : Dp K H x d) (he : Dp K H y e) (s1 : SeqAt.shaped d = true) (s2 : SeqAt.shaped e = true) (q : Q (.bl (PyData.eqv d e)) H) : rEqD K x y H Q := ⟨d, e, hd, he, s1, s2, q⟩
theorem l_neD {d e : PyData} (hd : Dp K H x d) (he : Dp K H y e) (s1 : SeqAt.shaped d = true) (s2 : SeqAt.shaped e = true) (q : Q (.bl (!PyData.eqv d e)) H) : rNeD K x y H Q := ⟨d, e, hd, he, s1, s2, q⟩
theorem l_repr {p : Addr} {d : PyData} (hd : Dp K H (.ref p) d) (h1 : d.showable = true) (h2 : d.hasDict = false) (h3 : d.depth ≤ 60) (h4 : d.shown.length ≤ sizeLine) (q : Q (.str d.shown) H) : rRepr K [.ref p] H Q := ⟨p, d, rfl, hd, h1, h2, h3, h4, q⟩
theorem l_cat {p q : Addr} {xs ys : List V} (hp : H p = some (.lst xs)) (hq : H q = some (.lst ys)) (sz : xs.length + ys.length ≤ sizeLine) (k : ∀ l G, H l = none → Same H G → G l = some (.lst (xs ++ ys)) → Q (.ref l) G) : rCat (.ref p) (.ref q) H Q := ⟨p, q, xs, ys, rfl, rfl, hp, hq, sz, fun l n => k l _ n (same0 n) upd_same⟩
theorem l_rep {p : Addr} {i : Int} {xs : List V} (hp : H p = some (.lst xs)) (h1 : -(2 ^ 63) ≤ i) (h2 : i < 2 ^ 63) (sz : xs.length * i.toNat ≤ sizeLine) (k : ∀ l G, H l = none → Same H G → G l = some (.lst (List.replicate i.toNat xs).flatten) → Q (.ref l) G) : rRep (.ref p) (.int i) H Q := ⟨p, i, xs, rfl, rfl, hp, h1, h2, sz, fun l n => k l _ n (same0 n) upd_same⟩
theorem l_times {y : Str} {n : Nat} (h2 : 2 ≤ n) (h1 : 1 ≤ y.length) (hz : y.length * n ≤ 1000000) (q : Q (.str ⟨(List.replicate n y.cps).foldl (· ++ ·) #[]⟩) H) : rTimes (.str y) (.int (n : Int)) H Q := ⟨y, n, rfl, rfl, h2, h1, hz, q⟩

def RPar (i j : Nat) (D : Ends) (σ : L2.St) (vs : List V) (H1 : Hp) : Prop := ∃ v w, vs = [v, w] ∧ D.nx ((σ.set i (some v)).set j (some w)) H1
theorem s_par {i j : Nat} (q : tar σ H fun vs H1 => RPar i j D σ vs H1) : tPar i j tar D σ H := q
theorem l_par {i j : Nat} {v w : V} (q : D.nx ((σ.set i (some v)).set j (some w)) H) : RPar i j D σ [v, w] H := ⟨v, w, rfl, q⟩
def RPar3 (i j l : Nat) (D : Ends) (σ : L2.St) (vs : List V) (H1 : Hp) : Prop := ∃ u v w, vs = [u, v, w] ∧ D.nx (((σ.set i (some u)).set j (some v)).set l (some w)) H1
theorem s_par3 {i j l : Nat} (q : tar σ H fun vs H1 => RPar3 i j l D σ vs H1) : tPar3 i j l tar D σ H := q
theorem l_par3 {i j l : Nat} {u v w : V} (q : D.nx (((σ.set i (some u)).set j (some v)).set l (some w)) H) : RPar3 i j l D σ [u, v, w] H := ⟨u, v, w, rfl, q⟩
/-- a join: M holds behind the first part, the second part is read from M on -/
theorem s_cut (M : L2.St → Hp → Prop) (q : s1 { D with nx := M } σ H) (k : ∀ τ G, M τ G → s2 D τ G) : Evl.tCut s1 s2 D σ H := ⟨M, q, k⟩
/-! ### walks -/
def WFor (J : It) (g : TG) (tb : TS) (D : Ends) (σ : L2.St) (H1 : Hp) : Prop := ∃ W : Nat → Nat → L2.St → Hp → Prop, (∃ m, W 0 m σ H1) ∧ ∀ i m σ H, W i m σ H →
  (J.stop i H ∧ D.nx σ H) ∨ (J.go i H ∧ ∃ N : L2.St → Hp → Prop, (∀ σ' H', N σ' H' → ∃ m', m' < m ∧ W (i + 1) m' σ' H') ∧ ∀ x H', J.yld i H x H' → g x σ H' fun σ2 H2 => tb { D with nx := N, ct := N, bk := D.nx } σ2 H2)
def RFor (g : TG) (tb : TS) (D : Ends) (σ : L2.St) (us : List V) (H1 : Hp) : Prop := ∃ n : Int, us = [.int n] ∧ -(2 ^ 62) ≤ n ∧ n < 2 ^ 62 ∧ WFor (Itr 0 n.toNat) g tb D σ H1
theorem s_forR (q : tar σ H fun us H1 => RFor g tbd D σ us H1) : tFor (iRng1 tar) g tbd D σ H := q
theorem l_forR {n : Int} (h0 : -(2 ^ 62) ≤ n) (h1 : n < 2 ^ 62) (Pv : Nat → L2.St → Hp → Prop) (a : Pv 0 σ H) (turn : ∀ (i : Nat) σ H, (i : Int) < n → Pv i σ H → g (.int (i : Int)) σ H fun σ2 H2 => tbd { D with nx := Pv (i + 1), ct := Pv (i + 1), bk := D.nx } σ2 H2)
    (done : ∀ σ H, Pv n.toNat σ H → D.nx σ H) : RFor g tbd D σ [.int n] H :=
  ⟨n, rfl, h0, h1, for_range (lo := 0) Pv a (fun i σ H hi p => by
    have e : (0 : Int) + (i : Int) = (i : Int) := Int.zero_add _
    rw [e]
    exact turn i σ H (by omega) p) done⟩
def TFor (K : PySem.W.Frag) (g : TG) (tb : TS) (D : Ends) (σ : L2.St) (x : V) (H1 : Hp) : Prop := ∃ a, x = .ref a ∧ (∃ xs, SqT K H1 a xs) ∧ WFor (Itt K a) g tb D σ H1
theorem s_forT (q : tl σ H fun x H1 => TFor K g tbd D σ x H1) : tFor (iTup K tl) g tbd D σ H := q
theorem l_forT {p : Addr} {xs : List V} (h : SqT K H p xs) (Pv : Nat → L2.St → Hp → Prop) (a : Pv 0 σ H) (stay : ∀ i σ H, i ≤ xs.length → Pv i σ H → SqT K H p xs)
    (turn : ∀ (i : Nat) x σ H, xs[i]? = some x → Pv i σ H → g x σ H fun σ2 H2 => tbd { D with nx := Pv (i + 1), ct := Pv (i + 1), bk := D.nx } σ2 H2) (done : ∀ σ H, Pv xs.length σ H → D.nx σ H) : TFor K g tbd D σ (.ref p) H :=
  ⟨p, rfl, ⟨xs, h⟩, for_tup Pv a stay turn done⟩

/-! ### comprehensions whose parts leave what is there -/
def WLc (J : It) (g : TG) (tt : TT) (te : TE) (vs : List Nat) (σ : L2.St) (Q : VK) (H1 : Hp) : Prop := ∀ D, H1 D = none → ∃ W : Nat → Nat → Hp → Prop, (∃ m, W 0 m (upd H1 D (.lst []))) ∧ ∀ i m H, W i m H →
  (J.stop i H ∧ Q (.ref D) H) ∨ (J.go i H ∧ ∃ Nx : Hp → Prop, (∀ H', Nx H' → ∃ m', m' < m ∧ W (i + 1) m' H') ∧ ∀ x H', J.yld i H x H' → g x (wipe σ vs) H' fun σ2 H2 => wipe σ2 vs = wipe σ vs ∧ tt σ2 H2 fun b H3 =>
    if b = true then te σ2 H3 fun y H4 => ∃ acc, H4 D = some (.lst acc) ∧ acc.length < sizeLine ∧ Nx (upd H4 D (.lst (acc ++ [y]))) else Nx H3)
theorem take_succ_of {xs : List V} {i : Nat} {x : V} (h : xs[i]? = some x) : xs.take (i + 1) = xs.take i ++ [x] := by
  rw [List.take_add_one, h]
  rfl
/-- a test, an expression evaluates to this, leaving what is there -/
def ToB (t : TT) (τ : L2.St) (G : Hp) (b : Bool) : Prop := ∀ R : Bool → Hp → Prop, (∀ G', Same G G' → R b G') → t τ G R
def ToV (t : TE) (τ : L2.St) (G : Hp) (v : V) : Prop := ∀ R : VK, (∀ G', Same G G' → R v G') → t τ G R
theorem wlc_of {J : It} {xs : List V} {Gd : Hp → Prop} (w : Walk J xs.length Gd (YAt xs)) (stay : ∀ G, Same H G → Gd G) (keep : V → Bool) (f : V → V) (short : xs.length ≤ 100000)
    (test : ∀ x ∈ xs, ∀ G, Same H G → ToB t ((wipe σ [j]).set j (some x)) G (keep x)) (val : ∀ x ∈ xs, keep x = true → ∀ G, Same H G → ToV te ((wipe σ [j]).set j (some x)) G (f x))
    (fin : ∀ D G, H D = none → Same H G → G D = some (.lst ((xs.filter keep).map f)) → Q (.ref D) G) : WLc J (gName j) t te [j] σ Q H := by
  intro D hD
  refine lc_it w (fun i G => Same H G ∧ G D = some (.lst (((xs.take i).filter keep).map f))) ⟨Same.upd0 hD, upd_same⟩ (fun i G _ p => stay G p.1) ?_ (fun G p => ?_)
  · intro i x G G' hi p y
    obtain ⟨rfl, hx⟩ := y
    have mem : x ∈ xs := List.mem_of_getElem? hx
    have tk := take_succ_of hx
    refine s_name ⟨?_, ?_⟩
    · show (((σ.set j none).set j (some x)).set j none) = σ.set j none
      rw [List.set_set, List.set_set]
    refine test x mem _ p.1 _ fun G1 e1 => ?_
    cases hk : keep x with
    | false =>
      refine i_f rfl ⟨p.1.trans e1, ?_⟩
      rw [tk, List.filter_append, List.filter_cons, if_neg (by rw [hk]; exact Bool.false_ne_true), List.filter_nil, List.append_nil]
      exact e1 _ _ p.2
    | true =>
      refine i_t rfl ?_
      refine val x mem hk _ (p.1.trans e1) _ fun G2 e2 => ?_
      refine ⟨_, e2 _ _ (e1 _ _ p.2), ?_, Same.setNew ((p.1.trans e1).trans e2) hD, ?_⟩
      · have h1 : ((xs.take i).filter keep).length ≤ (xs.take i).length := List.length_filter_le _ _
        have h2 : (xs.take i).length ≤ xs.length := by rw [List.length_take]; omega
        rw [List.length_map, sizeLine_eq]
        omega
      · rw [upd_same, tk, List.filter_append, List.filter_cons, if_pos hk, List.filter_nil, List.map_append]
        rfl
  · rw [List.take_length] at p
    exact fin D G hD p.1 p.2
def TxtLc (g : TG) (tt : TT) (te : TE) (vs : List Nat) (σ : L2.St) (Q : VK) (v : V) (H1 : Hp) : Prop := ∃ z, v = .str z ∧ WLc (Its z) g tt te vs σ Q H1
theorem s_lcS (q : tl σ H fun v H1 => TxtLc g t te vs σ Q v H1) : tLc (iStr tl) g t te vs σ H Q := q
def signV (c : Nat) : V := .str ⟨#[c]⟩
theorem walk_signs {z : Str} : Walk (Its z) (z.cps.toList.map signV).length (fun _ => True) (YAt (z.cps.toList.map signV)) := by
  have e : (z.cps.toList.map signV).length = z.cps.size := by rw [List.length_map, Array.length_toList]
  rw [e]
  refine walk_str.mono (fun _ _ => trivial) fun i H x H' hi _ y => ?_
  obtain ⟨rfl, c, hc, rfl⟩ := y
  refine ⟨rfl, ?_⟩
  rw [List.getElem?_map, Array.getElem?_toList, hc]
  rfl
theorem l_lcS {y : Str} (keep : V → Bool) (f : V → V) (short : y.length ≤ 100000) (test : ∀ c ∈ y.cps.toList, ∀ G, Same H G → ToB t ((wipe σ [j]).set j (some (signV c))) G (keep (signV c)))
    (val : ∀ c ∈ y.cps.toList, keep (signV c) = true → ∀ G, Same H G → ToV te ((wipe σ [j]).set j (some (signV c))) G (f (signV c)))
    (fin : ∀ D G, H D = none → Same H G → G D = some (.lst (((y.cps.toList.map signV).filter keep).map f)) → Q (.ref D) G) : TxtLc (gName j) t te [j] σ Q (.str y) H := by
  refine ⟨y, rfl, wlc_of walk_signs (fun _ _ => trivial) keep f ?_ ?_ ?_ fin⟩
  · rw [List.length_map, Array.length_toList]
    exact short
  · intro x hx
    obtain ⟨c, hc, rfl⟩ := List.mem_map.mp hx
    exact test c hc
  · intro x hx
    obtain ⟨c, hc, rfl⟩ := List.mem_map.mp hx
    exact val c hc
def LstLc (K : PySem.W.Frag) (g : TG) (tt : TT) (te : TE) (vs : List Nat) (σ : L2.St) (Q : VK) (x : V) (H1 : Hp) : Prop := ∃ a, x = .ref a ∧ (∃ xs, SqL K H1 a xs) ∧ WLc (Itl K a) g tt te vs σ Q H1
theorem s_lcL (q : tl σ H fun v H1 => LstLc K g t te vs σ Q v H1) : tLc (iList K tl) g t te vs σ H Q := q
theorem l_lcL {p : Addr} {xs : List V} (h : SqL K H p xs) (keep : V → Bool) (f : V → V) (short : xs.length ≤ 100000) (test : ∀ x ∈ xs, ∀ G, Same H G → ToB t ((wipe σ [j]).set j (some x)) G (keep x))
    (val : ∀ x ∈ xs, keep x = true → ∀ G, Same H G → ToV te ((wipe σ [j]).set j (some x)) G (f x)) (fin : ∀ D G, H D = none → Same H G → G D = some (.lst ((xs.filter keep).map f)) → Q (.ref D) G) : LstLc K (gName j) t te [j] σ Q (.ref p) H :=
  ⟨p, rfl, ⟨xs, h⟩, wlc_of walk_list (fun _ s => s.seq h) keep f short test val fin⟩
def TupLc (K : PySem.W.Frag) (g : TG) (tt : TT) (te : TE) (vs : List Nat) (σ : L2.St) (Q : VK) (x : V) (H1 : Hp) : Prop := ∃ a, x = .ref a ∧ (∃ xs, SqT K H1 a xs) ∧ WLc (Itt K a) g tt te vs σ Q H1
theorem s_lcT (q : tl σ H fun v H1 => TupLc K g t te vs σ Q v H1) : tLc (iTup K tl) g t te vs σ H Q := q
theorem l_lcT {p : Addr} {xs : List V} (h : SqT K H p xs) (keep : V → Bool) (f : V → V) (short : xs.length ≤ 100000) (test : ∀ x ∈ xs, ∀ G, Same H G → ToB t ((wipe σ [j]).set j (some x)) G (keep x))
    (val : ∀ x ∈ xs, keep x = true → ∀ G, Same H G → ToV te ((wipe σ [j]).set j (some x)) G (f x)) (fin : ∀ D G, H D = none → Same H G → G D = some (.lst ((xs.filter keep).map f)) → Q (.ref D) G) : TupLc K (gName j) t te [j] σ Q (.ref p) H :=
  ⟨p, rfl, ⟨xs, h⟩, wlc_of walk_tup (fun _ s => sqt_same s h) keep f short test val fin⟩
end

/-! ### rows of data of which each item has a property -/
section
variable {K : PySem.W.Frag} {σ : L2.St} {H : Hp} {te : TE} {tar : TA} {x y z v : V} {Q : VK} {Pr : Hp → V → Prop}
theorem l_new {o : HO} (k : ∀ p G, H p = none → Same H G → G p = some o → Q (.ref p) G) : ∀ p, H p = none → Q (.ref p) (upd H p o) := fun p n => k p _ n (Same.upd0 n) upd_same
/-- from H0 on: an expression gives a value with Pr, a row n such values -/
def ToP (H0 : Hp) (Pr : Hp → V → Prop) (te : TE) (σ : L2.St) : Prop := ∀ H, Same H0 H → ∀ Q : VK, (∀ v G, Same H G → Pr G v → Q v G) → te σ H Q
def AllA (H0 : Hp) (Pr : Hp → V → Prop) (n : Nat) (tar : TA) (σ : L2.St) : Prop := ∀ H, Same H0 H → ∀ Q : List V → Hp → Prop, (∀ vs G, Same H G → vs.length = n → (∀ v ∈ vs, Pr G v) → Q vs G) → tar σ H Q
variable {H0 : Hp}
theorem use_all {n : Nat} {Q : List V → Hp → Prop} (s : Same H0 H) (a : AllA H0 Pr n tar σ) (k : ∀ vs G, Same H G → vs.length = n → (∀ v ∈ vs, Pr G v) → Q vs G) : tar σ H Q := a H s Q k
theorem allA_nil : AllA H0 Pr 0 tNil σ := fun H _ Q k => k [] H (Same.refl H) rfl fun _ h => nomatch h
theorem allA_cons {n : Nat} (mono : ∀ G G' v, Same G G' → Pr G v → Pr G' v) (h1 : ToP H0 Pr te σ) (h2 : AllA H0 Pr n tar σ) : AllA H0 Pr (n + 1) (tCons te tar) σ := fun H s0 Q k =>
  h1 H s0 _ fun v G s p => h2 G (s0.trans s) _ fun vs G' s' len all => k (v :: vs) G' (s.trans s') (by rw [List.length_cons, len]) fun u hu => by
    rcases List.mem_cons.mp hu with e | hu
    · subst e
      exact mono G G' _ s' p
    · exact all u hu
theorem toP_c (p : ∀ G, Pr G v) : ToP H0 Pr (tC v) σ := fun H _ _ k => k v H (Same.refl H) (p H)
end

/-! ### kinds of values: texts, and what is none -/
def NotStr (K : PySem.W.Frag) (H : Hp) (x : V) : Prop := ∃ t, TyX K H x t ∧ PySem.W.kitOne K t (.type "str") = some false
theorem NotStr.non {K : PySem.W.Frag} {H : Hp} : NotStr K H .non := ⟨_, .base .non, kit_ty (by decide +kernel)⟩
theorem NotStr.bl {K : PySem.W.Frag} {H : Hp} {b : Bool} : NotStr K H (.bl b) := ⟨_, .base (.bl b), kit_ty (by decide +kernel)⟩
theorem NotStr.int {K : PySem.W.Frag} {H : Hp} {i : Int} : NotStr K H (.int i) := ⟨_, .base (.int i), kit_ty (by decide +kernel)⟩
/-- a value of the kinds that are drawn: a short text of plain signs; or none, and then not at d -/
def Txt1 (s : Str) : Prop := s.length ≤ 400 ∧ ∀ c ∈ s.cps.toList, c < 128
def ListAt (H : Hp) (a : Addr) : Prop := (∃ xs, H a = some (.lst xs)) ∨ (∃ xs, H a = some (.tup xs)) ∨ ∃ kvs, H a = some (.dK kvs)
def OddV (x : V) (H : Hp) : Prop := (∃ s, x = .str s ∧ Txt1 s) ∨ x = .non ∨ (∃ b, x = .bl b) ∨ (∃ i, x = .int i) ∨ ∃ a, x = .ref a ∧ ListAt H a
theorem ListAt.same {H G : Hp} {a : Addr} (s : Same H G) (h : ListAt H a) : ListAt G a := by
  rcases h with ⟨xs, e⟩ | ⟨xs, e⟩ | ⟨xs, e⟩
  · exact Or.inl ⟨xs, s _ _ e⟩
  · exact Or.inr (Or.inl ⟨xs, s _ _ e⟩)
  · exact Or.inr (Or.inr ⟨xs, s _ _ e⟩)
theorem ListAt.keep {H G : Hp} {a d : Addr} (s : Keep d H G) (n : a ≠ d) (h : ListAt H a) : ListAt G a := by
  rcases h with ⟨xs, e⟩ | ⟨xs, e⟩ | ⟨xs, e⟩
  · exact Or.inl ⟨xs, s _ _ n e⟩
  · exact Or.inr (Or.inl ⟨xs, s _ _ n e⟩)
  · exact Or.inr (Or.inr ⟨xs, s _ _ n e⟩)
theorem OddV.same {H G : Hp} {x : V} (s : Same H G) (h : OddV x H) : OddV x G := by
  rcases h with h | h | h | h | ⟨a, e, h⟩
  · exact Or.inl h
  · exact Or.inr (Or.inl h)
  · exact Or.inr (Or.inr (Or.inl h))
  · exact Or.inr (Or.inr (Or.inr (Or.inl h)))
  · exact Or.inr (Or.inr (Or.inr (Or.inr ⟨a, e, h.same s⟩)))
theorem OddV.keep_ne {H G : Hp} {x : V} {d : Addr} (h : OddV x H) (hd : DiceAt H d) (s : Keep d H G) (n : x ≠ .ref d) : OddV x G := by
  rcases h with h | h | h | h | ⟨a, e, h⟩
  · exact Or.inl h
  · exact Or.inr (Or.inl h)
  · exact Or.inr (Or.inr (Or.inl h))
  · exact Or.inr (Or.inr (Or.inr (Or.inl h)))
  · exact Or.inr (Or.inr (Or.inr (Or.inr ⟨a, e, h.keep s fun z => n (by rw [e, z])⟩)))
theorem OddV.dc {H G : Hp} {x : V} {d : Addr} (h : OddV x H) (c : Dc d H G) : OddV x G := by
  by_cases e : x = .ref d
  · obtain ⟨_, _, _, z⟩ := c.dice
    exact Or.inr (Or.inr (Or.inr (Or.inr ⟨d, e, Or.inl ⟨_, z⟩⟩)))
  · rcases h with h | h | h | h | ⟨a, e', h⟩
    · exact Or.inl h
    · exact Or.inr (Or.inl h)
    · exact Or.inr (Or.inr (Or.inl h))
    · exact Or.inr (Or.inr (Or.inr (Or.inl h)))
    · exact Or.inr (Or.inr (Or.inr (Or.inr ⟨a, e', h.keep c.keep fun z => e (by rw [e', z])⟩)))
theorem OddV.cases {K : PySem.W.Frag} {H : Hp} {x : V} (h : OddV x H) : (∃ s, x = .str s ∧ Txt1 s) ∨ NotStr K H x := by
  rcases h with h | rfl | ⟨b, rfl⟩ | ⟨i, rfl⟩ | ⟨a, rfl, h⟩
  · exact Or.inl h
  · exact Or.inr NotStr.non
  · exact Or.inr NotStr.bl
  · exact Or.inr NotStr.int
  · refine Or.inr ?_
    rcases h with ⟨xs, e⟩ | ⟨xs, e⟩ | ⟨xs, e⟩
    · exact ⟨_, .base (.lst e), kit_ty (by decide +kernel)⟩
    · exact ⟨_, .base (.tup e), kit_ty (by decide +kernel)⟩
    · exact ⟨_, .base (.dK e), kit_ty (by decide +kernel)⟩
/-- isinstance(x, str) -/
theorem l_isStr {K : PySem.W.Frag} {H : Hp} {Q : VK} {s : Str} (q : Q (.bl true) H) : rIsi K [.str s, .ty "str"] H Q := ⟨_, _, _, _, true, rfl, .ty "str", .base (.str s), kit_ty (by decide +kernel), q⟩
theorem l_notStr {K : PySem.W.Frag} {H : Hp} {Q : VK} {x : V} (h : NotStr K H x) (q : Q (.bl false) H) : rIsi K [x, .ty "str"] H Q := by
  obtain ⟨t, h1, h2⟩ := h
  exact ⟨_, _, _, _, false, rfl, .ty "str", h1, h2, q⟩
theorem same_keep {d : Addr} {H G J : Hp} (s : Same H G) (n : H d = none) (k : Keep d G J) : Same H J := fun b o e => k b o (ne_of_none e n) (s b o e)
/-- signs of a part of a text are signs of the text -/
theorem cutS_mem {z : Str} {lo hi : Option Int} {c : Nat} (h : c ∈ (cutS z lo hi).cps.toList) : c ∈ z.cps.toList := by
  unfold cutS at h
  exact List.mem_of_mem_drop (List.mem_of_mem_take h)
theorem cutS_len {z : Str} {lo hi : Option Int} : (cutS z lo hi).length ≤ z.length := by
  unfold cutS
  show (((z.cps.toList.drop _).take _).toArray).size ≤ z.cps.size
  rw [List.size_toArray, List.length_take, List.length_drop, Array.length_toList]
  omega
theorem append_len (y z : Str) : (y ++ z).length = y.length + z.length := by
  show (y.cps ++ z.cps).size = _
  rw [Array.size_append]
  rfl
theorem append_mem {y z : Str} {c : Nat} (h : c ∈ (y ++ z).cps.toList) : c ∈ y.cps.toList ∨ c ∈ z.cps.toList := by
  have e : (y ++ z).cps.toList = y.cps.toList ++ z.cps.toList := by
    show (y.cps ++ z.cps).toList = _
    rw [Array.toList_append]
  rw [e] at h
  exact List.mem_append.mp h
end G9

/-! Own exception classes over any built-in one: the object made, super().__init__(text), self.f = v. -/
namespace G9
open PySem PySem.Spec PyProof.Rows L2

/-! ### rows of classes: own ones, then tl -/
def refsThen (tl : List Value) : List Value → Bool
  | .ref _ :: r => refsThen tl r
  | l => l == tl
theorem refsThen_out {tl : List Value} {P : List Value → Prop} (h0 : P tl) (h1 : ∀ c r, P r → P (.ref c :: r)) : ∀ l : List Value, refsThen tl l = true → P l
  | .ref c :: r, e => h1 c r (refsThen_out h0 h1 r e)
  | [], e => by have z : ([] : List Value) = tl := beq_iff_eq.mp e; rw [z]; exact h0
  | .none :: r, e => by have z : (Value.none :: r) = tl := beq_iff_eq.mp e; rw [z]; exact h0
  | .ellipsis :: r, e => by have z : (Value.ellipsis :: r) = tl := beq_iff_eq.mp e; rw [z]; exact h0
  | .notImplemented :: r, e => by have z : (Value.notImplemented :: r) = tl := beq_iff_eq.mp e; rw [z]; exact h0
  | .bool b :: r, e => by have z : (Value.bool b :: r) = tl := beq_iff_eq.mp e; rw [z]; exact h0
  | .int a b :: r, e => by have z : (Value.int a b :: r) = tl := beq_iff_eq.mp e; rw [z]; exact h0
  | .float a b :: r, e => by have z : (Value.float a b :: r) = tl := beq_iff_eq.mp e; rw [z]; exact h0
  | .str a b :: r, e => by have z : (Value.str a b :: r) = tl := beq_iff_eq.mp e; rw [z]; exact h0
  | .bytes a b :: r, e => by have z : (Value.bytes a b :: r) = tl := beq_iff_eq.mp e; rw [z]; exact h0
  | .type a :: r, e => by have z : (Value.type a :: r) = tl := beq_iff_eq.mp e; rw [z]; exact h0
  | .builtin a :: r, e => by have z : (Value.builtin a :: r) = tl := beq_iff_eq.mp e; rw [z]; exact h0
theorem refsThen_has {tl : List Value} (n : String) {l : List Value} (e : refsThen tl l = true) : l.contains (.type n) = tl.contains (.type n) :=
  refsThen_out (P := fun l => l.contains (.type n) = tl.contains (.type n)) rfl (fun c r ih => by rw [List.contains_cons, ih]; rfl) l e
theorem refsThen_pass {tl : List Value} (self : Value) (h : refuseLoop self "__setattr__" tl = pure ()) {l : List Value} (e : refsThen tl l = true) : refuseLoop self "__setattr__" l = pure () :=
  refsThen_out (P := fun l => refuseLoop self "__setattr__" l = pure ()) h (fun c r ih => by rw [refuseLoop_ref]; exact ih) l e
theorem refsThen_some {tl : List Value} (h : tl.isEmpty = false) {l : List Value} (e : refsThen tl l = true) : l.isEmpty = false :=
  refsThen_out (P := fun l => l.isEmpty = false) h (fun c r _ => rfl) l e

/-- what a built-in class must bear so that own classes stand upon it: tl its row of classes, N the class whose __new__ makes it, I its __init__ -/
structure BaseB (B newId initId : String) (tl : List Value) : Prop where
  new : ∃ (N i0 : String) (b0 : List Value), ExcBaseFacts N newId i0 b0 ∧ tl.contains (.type N) = true
  noA : tl.contains (.type "AttributeError") = false
  noN : tl.contains (.type "NameError") = false
  obj : tl.contains (.type "object") = true
  some : tl.isEmpty = false
  pass : ∀ self : Value, refuseLoop self "__setattr__" tl = pure ()
  sup : PySem.W.KxsFacts B initId
  ini : entryFor table initId = Option.some Builtin.«BaseException.__init__»
  pln : plainId initId = true
  knd : builtinKind initId = Option.some .slot
  row : Manifest.signature? initId = Option.some ⟨.positional, "*", B, .self, [⟨"args", .varPos, false⟩]⟩
  nst : (B != "*") = true
  hB : tl.contains (.type B) = true

theorem of_facts {B newId initId : String} {tl : List Value} (F : ExcBaseFacts B newId initId tl) (sup : PySem.W.KxsFacts B initId) (obj : tl.contains (.type "object") = true) (some : tl.isEmpty = false)
    (pass : ∀ self : Value, refuseLoop self "__setattr__" tl = pure ()) : BaseB B newId initId tl :=
  ⟨⟨B, initId, tl, F, F.hasB⟩, F.noAttr, F.noName, obj, some, pass, sup, F.initEntry, F.init.plain, F.initKind, F.initRow, F.noStar, F.hasB⟩
abbrev tlVE : List Value := [.type "ValueError", .type "Exception", .type "BaseException", .type "object"]
abbrev tlIE : List Value := [.type "IndexError", .type "LookupError", .type "Exception", .type "BaseException", .type "object"]
abbrev tlLE : List Value := [.type "LookupError", .type "Exception", .type "BaseException", .type "object"]
abbrev tlOE : List Value := [.type "OverflowError", .type "ArithmeticError", .type "Exception", .type "BaseException", .type "object"]
abbrev tlRE : List Value := [.type "RuntimeError", .type "Exception", .type "BaseException", .type "object"]
abbrev tlKE : List Value := [.type "KeyError", .type "LookupError", .type "Exception", .type "BaseException", .type "object"]
theorem base_VE : BaseB "ValueError" "ValueError.__new__" "ValueError.__init__" tlVE := of_facts F.excBase_ValueError PySem.W.kxs_ValueError (by decide +kernel) rfl fun _ => by kernel_rfl
theorem base_IE : BaseB "IndexError" "IndexError.__new__" "IndexError.__init__" tlIE := of_facts F.excBase_IndexError PySem.W.kxs_IndexError (by decide +kernel) rfl fun _ => by kernel_rfl
theorem base_LE : BaseB "LookupError" "LookupError.__new__" "LookupError.__init__" tlLE := of_facts F.excBase_LookupError PySem.W.kxs_LookupError (by decide +kernel) rfl fun _ => by kernel_rfl
theorem base_OE : BaseB "OverflowError" "OverflowError.__new__" "OverflowError.__init__" tlOE := of_facts F.excBase_OverflowError PySem.W.kxs_OverflowError (by decide +kernel) rfl fun _ => by kernel_rfl
theorem base_RE : BaseB "RuntimeError" "RuntimeError.__new__" "RuntimeError.__init__" tlRE := of_facts F.excBase_RuntimeError PySem.W.kxs_RuntimeError (by decide +kernel) rfl fun _ => by kernel_rfl
theorem base_KE : BaseB "KeyError" "LookupError.__new__" "KeyError.__init__" tlKE where
  new := ⟨"LookupError", _, _, F.excBase_LookupError, by decide +kernel⟩
  noA := by decide +kernel
  noN := by decide +kernel
  obj := by decide +kernel
  some := rfl
  pass := fun _ => by kernel_rfl
  sup := ⟨by show builtinType _ = _; rw [builtinType_eq_fast]; kernel_rfl, by first | kernel_rfl | rfl⟩
  ini := excClass_KeyError.initEntry
  pln := excClass_KeyError.init.plain
  knd := by kernel_rfl
  row := by kernel_rfl
  nst := by decide +kernel
  hB := by decide +kernel

end G9

namespace PySem
namespace G9X
open G9
/-! ### an object of such a class is made: __new__, then the own __init__ -/
section
variable {prog : Program} {w : World} {A : Around} {E : Value → Shared → Prop} {R : Result → Shared → Prop} {h : Heap} {g : Array GenState} {d : Drawn} {t : Nat} {os : OsState}
variable {nm q : Str} {C N : Addr} {bs bm tl : List Value} {hdct : Bool} {sn : List Str} {sub : List Value} {ab : Bool} {col : Option Bool} {dd : Option Addr} {k0 k1 k2 k3 k5 : Option Value} {B newId initId : String}
theorem newX_check {M : Model} {Nn i0 : String} {b0 : List Value} (F : ExcBaseFacts Nn newId i0 b0) (hN : bm.contains (.type Nn) = true) {rest : List Value} {Q : Unit → Shared → Prop}
    (hC : h.get? C = some (excClassObj nm q C N bs bm hdct sn sub ab col dd k0 k1 k2 k3 k5 newId)) (hq : Q () ⟨h, g, d, t, os⟩) : wpAny M A (checkBuiltinCall newId ⟨.ref C :: rest, []⟩) Q E ⟨h, g, d, t, os⟩ := by
  have has : (Value.ref C :: bm).contains (.type Nn) = true := by rw [List.contains_cons, hN, Bool.or_true]
  have star := F.noStar
  simp only [checkBuiltinCall, F.newKind, F.newSplit, F.newRow]
  repeat (first | refine wpAny_loadPart_at hC ?_ | (refine wpAny_isSubtype_exc hC ?_; rw [has]) | refine wpAny_staticBase_exc hC ?_ | refine wpAny_madeBy_exc hC ?_ | simp only [bne_self_eq_false, Bool.false_eq_true, if_false] | wp_step)
  exact hq
theorem newX_code {Nn i0 : String} {b0 : List Value} (F : ExcBaseFacts Nn newId i0 b0) (hN : bm.contains (.type Nn) = true) (hA : bm.contains (.type "AttributeError") = false) (hE : bm.contains (.type "NameError") = false) {rest : List Value}
    (hC : h.get? C = some (excClassObj nm q C N bs bm hdct sn sub ab col dd k0 k1 k2 k3 k5 newId)) (small : rest.length ≤ sizeLine)
    (hq : R (.ok (.ret (.ref (h.objs.size + 1)))) ⟨(h.push { cls := .type "tuple", data := .seq rest.toArray }).push (HandSPX.excO C h.objs.size), g, d, t, os⟩) :
    codeAny (model prog w) A (.builtin newId ⟨.ref C :: rest, []⟩) R ⟨h, g, d, t, os⟩ := by
  have ends := F.ends
  have c1 : (Value.ref C :: bm).contains (.type Nn) = true := by rw [List.contains_cons, hN, Bool.or_true]
  have c2 : (Value.ref C :: bm).contains (.type "AttributeError") = false := by rw [List.contains_cons, hA]; rfl
  have c3 : (Value.ref C :: bm).contains (.type "NameError") = false := by rw [List.contains_cons, hE]; rfl
  refine codeAny_builtinAt F.entry ?_
  unfold Builtin.«BaseException.__new__»
  refine wpAt_bind ?_
  show wpAt _ _ _ (stack >>= _) _ _ _
  refine wpAt_bind (wpAt_stack fun p below => wpAt_of_wpAny ?_)
  wp_walk
  refine wpAt_of_wpAny ?_
  rw [F.owner]
  repeat (first | with_reducible refine wpAny_madeHere_exc F.canon hC ?_ | with_reducible refine wpAny_loadPart_at hC ?_ | (with_reducible refine wpAny_isSubtype_exc hC ?_; first | rw [c1] | rw [c2] | rw [c3]) | wp_step)
  show R _ _
  rw [Heap.size_push]
  exact hq
/-- type.__call__ of such a class -/
theorem makeX_in (T : BaseB B newId initId tl) (hb : refsThen tl bm = true) {rest : List Value} {fI : Addr} {Q : Fin → Shared → Prop}
    (hC : h.get? C = some (excClassObj nm q C N bs bm hdct sn sub ab col dd k0 k1 k2 k3 k5 newId))
    (hi : W.Looks (model prog w) h (typeLookup (.ref C) "__init__") (some (.ref fI))) (hbind : ∀ self, W.Looks (model prog w) h (bindSpecial (.ref fI) self) (.ref fI, [self])) (small : rest.length ≤ sizeLine)
    (hq : codeAny (model prog w) A (.call (.ref fI) ⟨.ref (h.objs.size + 1) :: rest, []⟩)
      (fun r s' => match r with | .ok (.ret v) => v = .none ∧ Q (.done (.ret (.ref (h.objs.size + 1)))) s' | .ok _ => False | .error e => E e s')
      ⟨(h.push (W.kdv_tup rest)).push (HandSPX.excO C h.objs.size), g, d, t, os⟩) :
    wpAny (model prog w) A (Builtin.«type.__call__» ⟨.ref C :: rest, []⟩) Q E ⟨h, g, d, t, os⟩ := by
  obtain ⟨Nn, i0, b0, F, hN⟩ := T.new
  repeat (first | with_reducible refine wpAny_loadPart_at hC ?_ | with_reducible refine wpAny_madeBy_exc hC ?_ | wp_step)
  refine codeAny_call_builtin_code (Code.quiet_builtin _ F.quiet) (newX_check F ((refsThen_has Nn hb).trans hN) hC ?_)
  refine newX_code F ((refsThen_has Nn hb).trans hN) ((refsThen_has _ hb).trans T.noA) ((refsThen_has _ hb).trans T.noN) hC small ?_
  show wpAny _ _ _ _ _ _
  have k : ∀ b o, h.get? b = some o → ((h.push (W.kdv_tup rest)).push (HandSPX.excO C h.objs.size)).get? b = some o := fun b o e => Heap.get?_push_of_some _ (Heap.get?_push_of_some _ e)
  have hC1 := k _ _ hC
  have here : ((h.push (W.kdv_tup rest)).push (HandSPX.excO C h.objs.size)).get? (h.objs.size + 1) = some (HandSPX.excO C h.objs.size) := by heap_get
  have self : (Value.ref C :: bm).contains (.ref C) = true := by simp
  have i1 := hi.keeps k
  have b1 := (hbind (.ref (h.objs.size + 1))).keeps k
  unfold isInstance
  repeat (first | with_reducible refine wpAny_loadPart_at here ?_ | (with_reducible refine wpAny_isSubtype_exc hC1 ?_; rw [self]) | wp_step)
  show wpAny _ _ (typeLookup (.ref C) _) _ _ _
  refine i1.at (wpAny_holding (wpAny_bind (b1.at (wpAny_bind (wpAny_call (codeAny_mono hq fun r s' z => ?_))))))
  rcases r with e | (v | _ | _ | _) <;> first | exact z | exact z.elim | skip
  obtain ⟨rfl, z⟩ := z
  first
    | exact wpAny_pure (wpAny_pure z)
    | (wp_walk; exact z)
/-- C(rest): the object, then its __init__ -/
theorem makeX (T : BaseB B newId initId tl) (hb : refsThen tl bm = true) {rest : List Value} {fI : Addr}
    (hC : h.get? C = some (excClassObj nm q C N bs bm hdct sn sub ab col dd k0 k1 k2 k3 k5 newId))
    (hi : W.Looks (model prog w) h (typeLookup (.ref C) "__init__") (some (.ref fI))) (hbind : ∀ self, W.Looks (model prog w) h (bindSpecial (.ref fI) self) (.ref fI, [self])) (small : rest.length ≤ sizeLine)
    (hq : codeAny (model prog w) (A.under (.builtin "type.__call__" ⟨.ref C :: rest, []⟩)) (.call (.ref fI) ⟨.ref (h.objs.size + 1) :: rest, []⟩) (W.InitBack (h.objs.size + 1) R)
      ⟨(h.push (W.kdv_tup rest)).push (HandSPX.excO C h.objs.size), g, d, t, os⟩) :
    codeAny (model prog w) A (.call (.ref C) ⟨rest, []⟩) R ⟨h, g, d, t, os⟩ := by
  have lk := tc_lookup
  have bd := tc_bind (.ref C)
  have ty : (⟨h, g, d, t, os⟩ : Shared).TypeIs (.ref C) "type" := ⟨_, hC, rfl⟩
  refine codeAny_of_tree ?_
  show wpAny _ _ (callAny (.ref C) _) _ _ _
  repeat (any_goals (first | assumption | with_reducible refine wpAny_loadPart_at hC ?_ | wp_step))
  refine ⟨rfl, ?_⟩
  refine codeAny_call_builtin_at (Code.quiet_builtin _ (by decide +kernel)) entry_typeCall (wpAny_check_type_call_sub hC (makeX_in T hb hC hi hbind small ?_))
  refine codeAny_mono hq fun r s' z => ?_
  rcases r with e | (v | _ | _ | _) <;> exact z

/-! ### the bound __init__ of the built-in class: the args are laid anew -/
abbrev mwO (i : String) (x : Addr) : Obj := { cls := .type "method-wrapper", data := .fields #[.builtin i, .ref x] }
theorem callB (T : BaseB B newId initId tl) {u e t0 : Addr} {rest : List Value} {Q : Value → Shared → Prop}
    (hC : h.get? C = some (excClassObj nm q C N bs bm hdct sn sub ab col dd k0 k1 k2 k3 k5 newId)) (he : h.get? e = some (HandSPX.excO C t0)) (hu : h.get? u = some (mwO initId e)) (small : rest.length ≤ sizeLine)
    (hq : ∀ h' t1, (∀ b o, b ≠ e → h.get? b = some o → h'.get? b = some o) → h'.get? e = some (HandSPX.excO C t1) → Q .none ⟨h', g, d, t, os⟩) :
    wpAny (model prog w) A (call (.ref u) rest) Q E ⟨h, g, d, t, os⟩ := by
  refine wpAny_call (codeAny_of_tree ?_)
  show wpAny _ A.in1 (callAny (.ref u) ⟨rest, []⟩) _ _ _
  simp only [callAny]
  refine wpAny_bind (wpAny_load hu ?_)
  simp only [mwO, show (Value.type "method-wrapper" == Value.type "method" || Value.type "method-wrapper" == Value.type "builtin_function_or_method" || Value.type "method-wrapper" == Value.type "method-wrapper") = true by decide, if_true]
  refine W.KFB.if_so (by decide) ?_
  refine wpAny_bind ?_
  · have star := T.nst
    simp only [checkBoundCall, T.knd, T.row]
    repeat (first | (with_reducible refine wpAny_loadPart_at he ?_) | with_reducible refine wpAny_loadPart_at hC ?_ | wp_step)
    refine wpAny_onRaise ?_
    rw [show ∀ (a b : String) (n : Nat), Bind.check ⟨.positional, "*", B, .self, [⟨"args", .varPos, false⟩]⟩ a b n (List.map (fun x => x.fst) ({ pos := Value.ref e :: rest } : Args).kw) = pure () from
      fun a b n => check_star_args _ _ _ _ _ _]
    refine wpAny_pure ?_
    refine wpAny_bind (wpAny_pure (wpAny_pure ?_))
    refine ⟨plainId_quiet T.pln _, codeAny_builtin T.ini ?_⟩
    exact W.exc_init_tree (cls := .ref C) (t0 := t0) (dv := none) (c2 := .none) (c3 := .none) (b4 := .bool false) he small fun h' k e' _ => hq h' _ k e'
end
end G9X
end PySem

namespace PySem
namespace G9X
open G9 Builtin Builtin.ObjectAttr
section
variable {prog : Program} {w : World} {A : Around} {R : Result → Shared → Prop} {hp : Heap} {g : Array GenState} {d : Drawn} {t : Nat} {os : OsState} {B newId initId : String} {tl : List Value}
/-- self.name = v on an exception that has no dict yet -/
theorem storeX (T : BaseB B newId initId tl) {K : W.Frag} {name : Str} {tk : Tok} {v : Value} {x C : Addr} {fv : Array Value} {cd : ClassData}
    (X : K.In hp) (hx : hp.get? x = some { cls := .ref C, data := .fields fv }) (hcd : W.clsIn K C = some cd) (hm : refsThen tl cd.mro = true) (hh : cd.hasDict = true) (ha : W.findIn K (.ref C) name = some none)
    (hq : ∀ h' tk' dx, (∀ b o, b ≠ x → hp.get? b = some o → h'.get? b = some o) → hp.objs.size ≤ dx → dx ≠ x → h'.get? x = some { cls := .ref C, dict := some dx, data := .fields fv } →
      h'.Ns1 dx (fun y => if y = name then some v else none) → R (.ok (.ret .none)) ⟨h', g, d, tk', os⟩) :
    codeAny (model prog w) A (.call (.builtin "object.__setattr__") ⟨[.ref x, .str name tk, v], []⟩) R ⟨hp, g, d, t, os⟩ := by
  have I : W.InstAt hp x { cls := .ref C, data := .fields fv } C none := ⟨hx, rfl, rfl, trivial⟩
  have S := F.store_object
  have here : cd.mro.contains (.type "object") = true := (refsThen_has "object" hm).trans T.obj
  have xs : x ≠ hp.objs.size := Nat.ne_of_lt (Heap.lt_size hx)
  have isObj : W.Looks (model prog w) hp (isInstance (.ref x) (.type "object")) true :=
    I.type.andThen (W.looks_mroIn X (by unfold W.mroIn; rw [hcd, Option.bind_some, if_neg (by rw [refsThen_some T.some hm]; decide), here]))
  refine codeAny_call_builtin S.slot.plain S.entry (@W.check_slot (model prog w) _ _ ⟨hp, g, d, t, os⟩ "object.__setattr__" "object" "__setattr__" (.ref x) [.str name tk, v] [] _ S.kind S.split isObj (S.args (.ref x) (.str name tk) v) ?_)
  have row : W.Looks (model prog w) hp (mroOf (.ref C)) cd.mro := (W.looks_clsIn X hcd).andThen .now
  have noTaker : W.Looks (model prog w) hp (storeTaker? none) none := .now
  have cls : W.Looks (model prog w) hp (classData C) cd := W.looks_clsIn X hcd
  rw [W.osa_eq, refuse_eq]
  refine wpAny_bind (wpAny_bind (I.type.at (wpAny_bind (row.at ?_))))
  rw [refsThen_pass _ (T.pass _) hm]
  refine wpAny_pure (wpAny_bind (I.type.at (wpAny_bind ((W.looks_findIn X ha).at (wpAny_bind (noTaker.at ?_))))))
  show wpAny _ _ (storeInOwnDict (.ref x) (.ref C) (.str name tk) name v false) _ _ _
  obtain ⟨nm, bs, mro, ns, qn, hd, sn, sb, ab, col, del⟩ := cd
  dsimp only at hh
  subst hh
  unfold storeInOwnDict ownDictForStores
  repeat (first | with_reducible refine HandSPX.store_in_new ?_ ?_ | with_reducible refine wpAny_loadPart_at hx ?_ | with_reducible refine cls.at ?_ | wp_step)
  · exact ⟨_, #[], _, (Heap.get?_update_ne _ _ _ _ xs.symm).trans (Heap.get?_push_at rfl rfl), rfl, fun e he => absurd he (by simp), fun _ => rfl⟩
  · intro h' tk' hn' hs
    have there : (hp.push { cls := .type "dict", data := .dict #[] }).get? x = some { cls := .ref C, data := .fields fv } := Heap.get?_push_of_some _ hx
    refine hq h' tk' hp.objs.size (fun b o hb ho => ?_) (Nat.le_refl _) xs.symm ?_ hn'
    · exact (hs.2 b (Nat.ne_of_lt (Heap.lt_size ho))).trans ((Heap.get?_update_ne _ _ _ _ hb).trans (Heap.get?_push_of_some _ ho))
    · exact (hs.2 x xs).trans (Heap.get?_update_self _ there rfl)
end
end G9X
end PySem

namespace G9
open PySem PySem.Spec PyProof.Rows L2
/-- what the written part says of an own exception class with an own __init__ -/
structure OexB (B newId initId : String) (tl : List Value) (K : PySem.W.Frag) (C : Addr) : Prop where
  T : BaseB B newId initId tl
  cls : ∃ nm q N bs bm sn sub ab col dd k0 k1 k2 k3 k5, K.lookup C = some (excClassObj nm q C N bs bm true sn sub ab col dd k0 k1 k2 k3 k5 newId) ∧ refsThen tl bm = true
  sa : PySem.W.findIn K (.ref C) "__setattr__" = some (some (.builtin "object.__setattr__"))
  exC : PySem.W.subIn K (.ref C) (.type "BaseException") = some true
  tyC : PySem.W.typeIn K (.ref C) = some (.type "type")
  kC : PySem.W.keepIn K (.ref C) = true
  hasB : PySem.W.subIn K (.ref C) (.type B) = some true
  opq : PySem.W.nsIn K cStatics "thirdparty.any" = some none
  sup : PySem.W.ks_superIn K C C "__init__" = some (some (.builtin initId))
section
variable {B newId initId : String} {tl : List Value} {X : Cx} {pins : List (Addr × Obj)} {σ : L2.St} {H : Hp} {s : Shared} {a C dx : Addr} {f : Str} {y : V} {u : Value} {fs : List (Str × V)} {E : Value → Shared → Prop} {A : Around}
/-- self.f = y, the first one -/
theorem put_first {Q : Unit → Shared → Prop} (T : OexB B newId initId tl X.K C) (I : Inv X pins σ H s) (e : H a = some (exo a C none)) (hno : PySem.W.findIn X.K (.ref C) f = some none) (ry : RelV y u)
    (h : ∀ dx s', H dx = none → dx ≠ a → Inv X pins σ (upd (upd H dx (exd dx [(f, y)])) a (exo a C (some dx))) s' → Q () s') : wpAny (model X.prog X.w) A (setAttr (.ref a) f u) Q E s := by
  obtain ⟨nm, q, N, bs, bm, sn, sub, ab, col, dd, k0, k1, k2, k3, k5, hC, hbm⟩ := T.cls
  have cl : PySem.W.clsIn X.K C = some { name := nm, bases := bs, mro := .ref C :: bm, ns := N, qualname := q, hasDict := true, slotNames := sn, subclasses := sub, abstract := ab, collection := col, hasDel := false } := by unfold PySem.W.clsIn; rw [hC] <;> rfl
  obtain ⟨t1, ho⟩ := exo_at I.hok e
  obtain ⟨hp, g, d, t, os⟩ := s
  refine PySem.W.set_plain I.kIn (ox := { cls := .ref C, dict := none, data := .fields #[.ref t1, .none, .none, .none, .bool false, .none] }) (od := none) ⟨ho, rfl, rfl, trivial⟩ T.sa ?_
  refine PySem.G9X.storeX T.T I.kIn ho cl (show refsThen tl (.ref C :: bm) = true from hbm) rfl hno fun h' tk' dx k dn dne hx hn => ?_
  have fresh : H dx = none := I.hok.fresh dn
  have older : ∀ {b : Addr} {o : Obj}, hp.get? b = some o → b ≠ dx := fun q z => absurd (Heap.lt_size q) (by rw [z]; exact Nat.not_lt.mpr dn)
  have other : ∀ {b : Addr}, H b = none → b ≠ a := fun n z => by
    rw [z, e] at n
    cases n
  refine h dx _ fresh dne (I.un (t' := tk') ⟨fun b o q n _ _ => k b o (other n) q, fun b o q n _ _ => ⟨o.slots, k b o (other n) q⟩, fun b o q n _ => ?_, fun b o q _ => ?_, fun b xs q => ?_, fun b o v q => ?_, fun b ps q => ⟨#[], ?_⟩⟩ fun b o q => ?_)
  · rw [upd_ne (other n), upd_ne (older q)]
    exact n
  · by_cases hb : b = a
    · exact ⟨_, by rw [hb]; exact hx⟩
    · exact ⟨o, k b o hb q⟩
  · rw [upd_ne (at_ne e q exo_tup), upd_ne (ne_of_none q fresh)]
    exact q
  · rw [upd_ne (at_ne e q exo_frz), upd_ne (ne_of_none q fresh)]
    exact q
  · rw [upd_ne (at_ne e q exo_tbl), upd_ne (ne_of_none q fresh), q]
    simp
  · by_cases hb : b = a
    · subst hb
      rw [upd_same] at q
      cases q
      exact exo_ok hx
    rw [upd_ne hb] at q
    by_cases hd : b = dx
    · subst hd
      rw [upd_same] at q
      cases q
      exact exd_ok hn (relO_put (fs := []) ry fun g => True.intro)
    rw [upd_ne hd] at q
    refine (I.hok b o q).stay (fun c v hc z => k c v ?_ z) (fun c hc => ?_) fun c xs hc => ?_
    · rcases hc with hc | hc
      · rw [hc]
        exact hb
      · exact at_ne e hc exo_own
    · rw [upd_ne (at_ne e hc exo_own), upd_ne (ne_of_none hc fresh)]
      exact hc
    · rw [upd_ne (at_ne e hc exo_tup), upd_ne (ne_of_none hc fresh)]
      exact hc
/-- the bound __init__ of the built-in class, called: the object's args change, nothing that is told of it -/
theorem init_bound {us : List Value} {ub : Addr} {Q : Value → Shared → Prop} (T : OexB B newId initId tl X.K C) (I : Inv X pins σ H s) (e : H a = some (exo a C none)) (hu : s.heap.get? ub = some (PySem.G9X.mwO initId a)) (small : us.length ≤ sizeLine)
    (h : ∀ s', Inv X pins σ H s' → Q .none s') : wpAny (model X.prog X.w) A (call (.ref ub) us) Q E s := by
  obtain ⟨nm, q, N, bs, bm, sn, sub, ab, col, dd, k0, k1, k2, k3, k5, hC, hbm⟩ := T.cls
  obtain ⟨t1, ho⟩ := exo_at I.hok e
  obtain ⟨hp, g, d, t, os⟩ := s
  refine PySem.G9X.callB T.T (I.kIn _ _ hC) ho hu small fun h' t2 k hx => ?_
  have J := I.write (t' := t) (x := a) (e := a) (o := exo a C none) (by rw [e]; exact True.intro) (.inl rfl) k ⟨_, hx⟩ (exo_ok hx)
  have same : upd H a (exo a C none) = H := by
    funext b
    by_cases hb : b = a
    · rw [hb, upd_same, e]
    · rw [upd_ne hb]
  rw [same] at J
  exact h _ J
end
/-- self.f = e -/
def tPut (B newId initId : String) (tl : List Value) (K : PySem.W.Frag) (f : Str) (to te : TE) : TS := fun D σ H => te σ H fun y H1 => to σ H1 fun x H2 => ∃ a C : Addr, x = .ref a ∧ OexB B newId initId tl K C ∧ PySem.W.findIn K (.ref C) f = some none ∧
  H2 a = some (exo a C none) ∧ ∀ dx, H2 dx = none → dx ≠ a → D.nx σ (upd (upd H2 dx (exd dx [(f, y)])) a (exo a C (some dx)))
theorem ps_put {B newId initId : String} {tl : List Value} {X : Cx} {o e : Expr} {to te : TE} {f : Str} {p' pos : Pos} (ho : PE X o to) (he : PE X e te) (hs : swapsWith e (some (.Attribute o f p')) pos.line X.env = pure false := by rfl) :
    PS X (.Assign [.Attribute o f p'] e pos) (tPut B newId initId tl X.K f to te) := by
  refine ⟨fun pins s σ H D I h => ?_⟩
  refine plainObj_wpAny_Assign_Attribute (thn (he.run pins s σ H _ I h) fun v s1 ⟨y, H1, I1, r1, q1⟩ => thn (ho.run pins s1 σ H1 _ I1 q1) fun u s2 ⟨x, H2, I2, r2, a, C, ex, T, hno, ea, q⟩ => ?_) hs
  subst ex
  obtain rfl : u = Value.ref a := r2
  exact put_first T I2 ea hno r1 fun dx s' n ne J => ⟨σ, _, J, q dx n ne⟩
end G9

namespace G9
open PySem PySem.Spec PyProof.Rows L2
/-! ### a def in a class whose body says super().__init__(..): its closure, and its body walked -/
/-- what a def in the class C must be so that super() in it is C's: f its address, fd the def -/
structure SupFn (P : Program) (K : PySem.W.Frag) (mg : Str → Option Value) (qual me : Str) (st : Stmt) (f C : Addr) (fd : FuncData) : Prop where
  ex : ∃ (oc kV doc pm ct ccl cl : Value) (od an cdd cld : Option Addr) (osl ccs csl : Array (Option Value)) (cda cc : Addr) (vs : Array Value) (file : Str) (tf : Tok),
    fd = PySem.W.fnX "__init__" qual (defArgs st) (defBody st) (defScope st) [("__class__", cc)] .none kV doc pm an (.ref cda) ct ∧ K.lookup f = some ⟨oc, od, .func fd, osl⟩ ∧ PySem.W.codeIn K (.ref cda) qual = true ∧
    K.lookup cda = some ⟨ccl, cdd, .fields vs, ccs⟩ ∧ vs[2]? = some (.str file tf) ∧ ((P.main.file : Str) == file) = true ∧ K.lookup cc = some ⟨cl, cld, .cell (some (.ref C)), csl⟩
  top : (P.main.scope.names.lookup ("super" : Str)).isSome = false
  sup : mg "super" = none
  ar : ((defArgs st).posonlyargs ++ (defArgs st).args).head?.map (·.arg) = some me
/-- the scope of such a def -/
structure SupScope (N ps : List Str) (me : Str) (sc : Scope) : Prop where
  kind : sc.kind = .function
  co : sc.isCoroutine = false
  gen : sc.isGenerator = false
  nd : N.Nodup
  pre : N.take ps.length = ps
  loc : ∀ x ∈ ps, sc.names.lookup x = some .local
  nocell : ∀ y ∈ sc.names, y.2 ≠ .cell
  free : ∀ y ∈ sc.names, y.2 = .free → y.1 = ("__class__" : Str)
  cls : sc.names.lookup ("__class__" : Str) = some .free
  sup : sc.names.lookup ("super" : Str) = some .globalImplicit
  me : me ∈ ps

/-- the context of its body -/
def cxS (CX : CXT) (P : Program) (w : World) (K : PySem.W.Frag) (mg : Str → Option Value) (base : Heap) (N : List Str) (qual : Str) (scope : Scope) (f : Addr) (cdv : Value) (cc : Addr) (A : Around) (fs : List Env) (s : Shared) (H : Hp) (E : XK) : Cx where
  prog := P
  w := w
  K := K
  mg := mg
  base := base
  A := A.deeper (PySem.W.envX qual scope s.heap.objs.size f cdv [("__class__", cc)])
  N := N
  s_0 := s
  H_0 := H
  env := PySem.W.envX qual scope s.heap.objs.size f cdv [("__class__", cc)]
  outer := fs
  stack := PySem.W.envX qual scope s.heap.objs.size f cdv [("__class__", cc)] :: fs
  ex := []
  calm := true
  fn := fun _ => false
  pn := []
  xe := fun e s' => wpAny (model P w) (A.deeper (PySem.W.envX qual scope s.heap.objs.size f cdv [("__class__", cc)])) (leaving (PySem.W.envX qual scope s.heap.objs.size f cdv [("__class__", cc)]) e) (fun _ s'' => CX fs H s E e s'') (fun e' s'' => CX fs H s E e' s'') s'

section
variable {CX : CXT} {P : Program} {w : World} {K : PySem.W.Frag} {mg : Str → Option Value} {base : Heap} {N ps : List Str} {qual me : Str} {scope : Scope} {f cc C : Addr} {cdv : Value} {A : Around} {fs : List Env} {s : Shared} {H : Hp} {E : XK} {us : List Value} {vs : List V}
theorem lookup_one : ∀ {l : List (Str × Value)} {x : Str} {u : Value}, (x, u) ∈ l → (∀ v, (x, v) ∈ l → v = u) → l.lookup x = some u
  | [], _, _, h, _ => nomatch h
  | (y, v) :: l, x, u, h, q => by
    by_cases e : x = y
    · subst e
      have z := q v List.mem_cons_self
      subst z
      simp [List.lookup]
    · have b : (x == y) = false := by simpa using e
      simp only [List.lookup, b]
      refine lookup_one ?_ fun v hv => q v (List.mem_cons_of_mem _ hv)
      rcases List.mem_cons.mp h with z | z
      · cases z
        exact absurd rfl e
      · exact z
theorem lookup_zip {ps : List Str} {us : List Value} {i : Nat} {x : Str} {u : Value} (nd : ps.Nodup) (hx : ps[i]? = some x) (hu : us[i]? = some u) : (ps.zip us).reverse.lookup x = some u := by
  refine lookup_one ?_ fun v hv => ?_
  · rw [List.mem_reverse, List.mem_iff_getElem?]
    exact ⟨i, by rw [List.getElem?_zip_eq_some]; exact ⟨hx, hu⟩⟩
  · rw [List.mem_reverse, List.mem_iff_getElem?] at hv
    obtain ⟨j, e⟩ := hv
    rw [List.getElem?_zip_eq_some] at e
    have ij : j = i := nodup_ix nd e.1 hx
    subst ij
    have z := e.2.symm.trans hu
    exact Option.some.inj z

theorem inv_startS (S : SupScope N ps me scope) (hd : A.handled = none) (e0 : Env0 P w K mg base A fs s H) (hl : vs.length = ps.length) (r : Vals vs us) (hc : ∃ (cl : Value) (cld : Option Addr) (csl : Array (Option Value)), K.lookup cc = some ⟨cl, cld, .cell (some (.ref C)), csl⟩)
    {h1 : Heap} {tk : Nat} (hns : h1.Ns s.heap.objs.size (fun x => (ps.zip us).reverse.lookup x)) (hk : ∀ b o, s.heap.get? b = some o → h1.get? b = some o) :
    Inv (cxS CX P w K mg base N qual scope f cdv cc A fs s H E) [] (start N vs) H { s with heap := h1, toks := tk } := by
  obtain ⟨cl, cld, csl, hc⟩ := hc
  have cell : ∀ x c, (cxS CX P w K mg base N qual scope f cdv cc A fs s H E).env.cells.lookup x = some c → x = "__class__" ∧ c = cc := by
    intro x c e
    have e' : List.lookup x [(("__class__" : Str), cc)] = some c := e
    by_cases hx : x = "__class__"
    · subst hx
      have z : some cc = some c := by simpa [List.lookup] using e'
      exact ⟨rfl, (Option.some.inj z).symm⟩
    · have b : (x == ("__class__" : Str)) = false := by simpa using hx
      simp [List.lookup, b] at e'
  have baseC := e0.mod.kin _ _ hc
  have noX : ∀ b : Addr, b ∉ (cxS CX P w K mg base N qual scope f cdv cc A fs s H E).ex := fun b z => nomatch z
  have ul : us.length = ps.length := r.length.symm.trans hl
  have pl : ps.length ≤ N.length := by have := congrArg List.length S.pre; rw [List.length_take] at this; omega
  refine ⟨⟨e0.mod, S.kind, rfl, rfl, Nat.le_refl _, fun x y c h1 h2 => ?_, fun x hx => ?_, (fun x c h => nomatch h), fun _ => hd, Around.frames_deeper e0.frames, .inr ⟨rfl, rfl⟩, fun b z => absurd z (noX b), e0.bs, e0.bsz, fun b _ _ => noX b, fun b z => absurd z (noX b), e0.funs, e0.frf⟩,
    rfl, e0.bare, Un.kept hk, ⟨_, hns, fun i x v h1 h2 h3 => ?_⟩, fun x c e => ?_, e0.hok.fresh (Nat.le_refl _), fun x c e => ?_, (fun p hp => nomatch hp), e0.hok.kept hk, ?_⟩
  · exact (cell x c h1).1.trans (cell y c h2).1.symm
  · have free : x = "__class__" := by
      have hx' : scope.names.lookup x = some .cell ∨ scope.names.lookup x = some .free := hx
      rcases hx' with q | q
      · exact absurd rfl (S.nocell _ (PySem.mem_of_lookup q))
      · exact S.free _ (PySem.mem_of_lookup q) rfl
    subst free
    exact ⟨cc, rfl⟩
  · have iv : i < vs.length := by
      unfold L2.start at h2
      rw [List.getElem?_append] at h2
      split at h2
      · rename_i q
        simpa using q
      · rw [List.getElem?_replicate] at h2
        split at h2 <;> cases h2
    have e2 : vs[i]? = some v := by
      unfold L2.start at h2
      rw [List.getElem?_append_left (by simpa using iv), List.getElem?_map] at h2
      cases q : vs[i]? with
      | none => rw [q] at h2; cases h2
      | some z => rw [q] at h2; cases h2; rfl
    have e1 : ps[i]? = some x := by
      rw [← S.pre, List.getElem?_take, if_pos (by omega)]
      exact h1
    obtain ⟨u, hu, ru⟩ := r.get e2
    refine ⟨u, ru, Or.inl ⟨S.loc x (List.mem_of_getElem? e1), ?_⟩⟩
    refine lookup_zip ?_ e1 hu
    rw [← S.pre]
    exact S.nd.sublist (List.take_sublist _ _)
  · obtain ⟨_, rfl⟩ := cell x c e
    exact ⟨_, ⟨_, hk _ _ (e0.bs _ _ baseC).1, rfl⟩⟩
  · obtain ⟨_, rfl⟩ := cell x c e
    exact (e0.bs _ _ baseC).2
  · show (L2.start N vs).length = N.length
    unfold L2.start
    simp
    omega
end
end G9

namespace G9
open PySem PySem.Spec PyProof.Rows L2
section
variable {B newId initId : String} {tl : List Value} {X : Cx} {pins : List (Addr × Obj)} {σ : L2.St} {H : Hp} {s : Shared} {a C : Addr}
/-- super().__init__ of an object that is being made: bound -/
theorem get_sup {so : Addr} {pl : Sem Bool} {Q : Value × List Value → Shared → Prop} (T : OexB B newId initId tl X.K C) (I : Inv X pins σ H s) (e : H a = some (exo a C none)) (hs : s.heap.get? so = some (PySem.W.ks_superObj C a C))
    (h : ∀ u s', Inv X ((u, PySem.G9X.mwO initId a) :: pins) σ H s' → Q (.ref u, []) s') : wpAny (model X.prog X.w) X.A (getMethod (.ref so) "__init__" pl) Q X.xe s := by
  obtain ⟨t1, ho⟩ := exo_at I.hok e
  have J : PySem.W.InstAt s.heap a { cls := .ref C, dict := none, data := .fields #[.ref t1, .none, .none, .none, .bool false, .none] } C none := ⟨ho, rfl, rfl, trivial⟩
  have K := I.kIn
  obtain ⟨hp, g, d, t, os⟩ := s
  cases hc : PySem.W.clsIn X.K C with
  | none =>
    have z := T.sup
    unfold PySem.W.ks_superIn at z
    rw [hc] at z
    cases z
  | some cd =>
    have z := T.sup
    unfold PySem.W.ks_superIn at z
    rw [hc] at z
    refine PySem.W.kxs_getMethod T.T.sup hs (PySem.W.looks_opaque K T.opq) (l₀ := cd.mro) ?_ rfl K z (J.type.andThen (PySem.W.looks_subIn K T.hasB)) (PySem.W.ks_ne K J hc) (by decide) ?_
    · exact fun A Q E s k q => wpAny_bind ((PySem.W.looks_clsIn K hc) A _ E s k (wpAny_pure q))
    · exact h _ _ (ClX.pin_new I (fun b o q => Heap.get?_push_of_some _ q) (Nat.le_refl _) (Heap.get?_push_size _ rfl) fun v => nofun)
/-- super().__init__(e) -/
theorem sup_stmt {body : List Stmt} {ej : Expr} {te : TE} {p0 p1 p2 p7 p8 : Pos} {D : Ends} {f cc cda : Addr} {me : Str} {fd : FuncData} {oc ccl cl : Value} {od cdd cld : Option Addr} {osl ccs csl : Array (Option Value)} {vs : Array Value} {file : Str} {tf : Tok}
    (T : OexB B newId initId tl X.K C) (I : Inv X [] σ H s) (eH : H a = some (exo a C none))
    (hfd : X.K.lookup f = some ⟨oc, od, .func fd, osl⟩) (har : (fd.params.posonlyargs ++ fd.params.args).head?.map (·.arg) = some me)
    (hcode : X.K.lookup cda = some ⟨ccl, cdd, .fields vs, ccs⟩) (hvs : vs[2]? = some (.str file tf)) (hfile : ((X.prog.main.file : Str) == file) = true) (hcell : X.K.lookup cc = some ⟨cl, cld, .cell (some (.ref C)), csl⟩)
    (htop : (X.prog.main.scope.names.lookup ("super" : Str)).isSome = false) (hsup : X.mg "super" = none)
    (ef : X.env.func = some f) (ec : X.env.code = .ref cda) (ecl : X.env.cells.lookup ("__class__" : Str) = some cc) (ks : X.env.kindOf "super" = some .globalImplicit) (kc : X.env.kindOf "__class__" = some .free) (km : X.env.kindOf me = some .local)
    {i : Nat} (hi : X.N[i]? = some me) (hσ : σ[i]? = some (some (.ref a)))
    (he : PE X ej te) {pl : Sem Bool} (hev : eval (.Call (.Attribute (.Call (.Name "super" p0) [] [] p1) "__init__" p2) [ej] [] p7) X.env = (do
      let ov ← attributeBase (.Call (.Name "super" p0) [] [] p1) "__init__" X.env (eval (.Call (.Name "super" p0) [] [] p1) X.env)
      standAt p2.atName
      let (f, first) ← holding [ov] (getMethod ov "__init__" pl)
      callWith p7 f first (backTo p7 (starEach [ej] X.env)) [])) (hst : starEach [ej] X.env = (false, eval ej X.env) :: starEach [] X.env)
    (want : te σ H fun x H1 => H1 a = some (exo a C none) ∧ D.nx σ H1) :
    _root_.PySem.wpAt (model X.prog X.w) X.A (.func body X.env) (exec (.Expr (.Call (.Attribute (.Call (.Name "super" p0) [] [] p1) "__init__" p2) [ej] [] p7) p8) X.env) (SP X [] D) X.xe s := by
  obtain ⟨nm, q, N, bs, bm, sn, sub, ab, col, dd, k0, k1, k2, k3, k5, hC, hbm⟩ := T.cls
  obtain ⟨t1, ho⟩ := exo_at I.hok eH
  obtain ⟨ar, hp, hme⟩ := Option.map_eq_some_iff.mp har
  have KX := I.kIn
  obtain ⟨mb, hb1, hb2⟩ := I.mod.blt
  obtain ⟨m, hns, hlook⟩ := I.loc
  obtain ⟨u, ru, lk⟩ := hlook i me _ hi hσ (Or.inl km)
  have eu : u = Value.ref a := ru
  subst eu
  have hm : m me = some (.ref a) := by
    rcases lk with ⟨_, z⟩ | ⟨z, _⟩
    · exact z
    · rw [km] at z
      rcases z with z | z <;> cases z
  have mro : PySem.W.mroIn X.K C (.ref C) = some true := by
    unfold PySem.W.mroIn PySem.W.clsIn
    rw [hC]
    simp
  refine PySem.ks_wpAt_Expr_any (hi := I.quiet) (PySem.ks_wpAt_MethodCall (pl := pl) ?_ hev)
  refine PySem.ks_wpAt_super_base ks kc (by decide) ef (KX _ _ hfd) rfl hp ec (KX _ _ hcode) rfl hvs hfile htop ?_
  refine PySem.W.ks_loadName_global I.ok.kind ks (Calls.loadGlobal_builtin (by rw [I.ok.glob]; exact I.mod.glob.keeps I.bk) hsup (by rw [I.ok.blt]; exact hb1.keeps I.bk) ((hb2 _ (by decide)).trans (by decide +kernel : bootBuiltins "super" = some (.type "super"))) ⟨rfl, ?_⟩)
  refine wpAny_loadName_free I.ok.kind kc ecl ⟨_, KX _ _ hcell, rfl⟩ ?_
  rw [hme]
  refine wpAny_loadName_local I.ok.kind km hns hm ?_
  obtain ⟨hp0, g, d, t, os⟩ := s
  refine PySem.ks_wpAny_isType_cls (KX _ _ hC) rfl ⟨rfl, ?_⟩
  refine PySem.ks_wpAny_call_super (KX _ _ hC) rfl ho rfl (fun c => nofun) (PySem.W.looks_mroIn KX mro) fun h' e k => ?_
  have I1 : Inv X [] σ H ⟨h', g, d, t, os⟩ := I.kept (t' := t) k
  refine get_sup T I1 eH e fun u s2 I2 => ?_
  rw [hst]
  refine PySem.W.kxs_callWith (i := initId) (x := a) rfl (Calls.evalArgs_plain ?_)
  show wpAny _ _ (spliced ((false, eval ej X.env) :: backTo p7 (starEach [] X.env))) _ _ _
  refine Calls.spliced_cons (thn (he.run [(u, PySem.G9X.mwO initId a)] s2 σ H _ I2 want) fun v s3 hh => ?_)
  obtain ⟨x, H1, I3, r, e1, q1⟩ := hh
  refine Calls.spliced_nil ⟨ClX.pin_at I3, ?_⟩
  refine init_bound T I3 e1 (ClX.pin_at I3) ?_ fun s4 I4 => ⟨σ, H1, ClX.unpin I4, q1⟩
  show 1 ≤ sizeLine
  rw [sizeLine_eq]
  omega
end
end G9

namespace G9
open PySem PySem.Spec PyProof.Rows L2
/-! ### the __init__ of an own exception class: super().__init__(text); self.f = v -/
/-- what can be shown by !r, in a text of moderate size -/
def Shw (K : PySem.W.Frag) (H : Hp) (v : V) : Prop :=
  (∃ i : Int, v = .int i ∧ i.natAbs.log2 < 1920) ∨ (∃ y : Str, v = .str y ∧ (reprText y).length + 1000 ≤ sizeLine) ∨ v = .non ∨ (∃ b, v = .bl b) ∨
    ∃ (p : Addr) (d : PyData), v = .ref p ∧ Dp K H (.ref p) d ∧ d.showable = true ∧ d.hasDict = false ∧ d.depth ≤ 60 ∧ d.shown.length + 1000 ≤ sizeLine
def spInit (C : Addr) (f : Str) (K : PySem.W.Frag) : Sp := fun vs H Q _ => ∃ a v, vs = [.ref a, v] ∧ H a = some (exo a C none) ∧ Shw K H v ∧ ∀ dx, H dx = none → dx ≠ a → Q .non (upd (upd H dx (exd dx [(f, v)])) a (exo a C (some dx)))
section
variable {X : Cx}
/-- {x!r} in an f-string, some text -/
def tShw (K : PySem.W.Frag) (te : TE) : TE := fun σ H Q => te σ H fun x H1 => Shw K H1 x ∧ ∀ y : Str, y.length + 1000 ≤ sizeLine → Q (.str y) H1
theorem int_text_small {i : Int} (h : i.natAbs.log2 < 1920) : (Str.ofString (toString i)).length + 1000 ≤ sizeLine := by
  have e := int_text_length_le (k := 1920) (by decide) h
  rw [PySem.ofString_length, sizeLine_eq]
  omega
theorem pe_shw {k : Nat} (room : RoomG k X.A) {e : Expr} {te : TE} {pos : Pos} (he : PE X e te) : PE X (.FormattedValue e 114 none pos) (tShw X.K te) := by
  refine ⟨fun pins s σ H Q I h => ?_⟩
  refine wpAny_FormattedValue_repr (thn (he.run pins s σ H _ I h) fun v s1 hv => ?_)
  obtain ⟨x, H1, I1, r1, sh, q⟩ := hv
  have fin : ∀ {y : Str} {t t' : Tok} {s2 : Shared}, y.length + 1000 ≤ sizeLine → Inv X pins σ H1 s2 → wpAny (model X.prog X.w) X.A (formatField (.str y t) Str.empty) (EP X pins σ Q) X.xe s2 := fun {y t t' s2} hy I2 =>
    wpAny_formatField_str ⟨.str y, H1, I2, ⟨_, rfl⟩, q y hy⟩ ⟨.str y, H1, I2.tok _, ⟨_, rfl⟩, q y hy⟩ (by omega)
  rcases sh with ⟨i, rfl, hz⟩ | ⟨y, rfl, hz⟩ | rfl | ⟨b, rfl⟩ | ⟨p, d, rfl, hd, a1, a2, a3, a4⟩
  · obtain ⟨t, rfl⟩ := r1
    exact pyReprObj_int hz (fin (t' := t) (int_text_small hz) (I1.tok _))
  · obtain ⟨t, rfl⟩ := r1
    exact pyReprObj_str (fin (t' := t) hz (I1.tok _)) (by omega)
  · obtain rfl : v = Value.none := r1
    exact pyReprObj_none (fin (t' := s1.toks) (by rw [sizeLine_eq]; decide) (I1.tok _))
  · obtain rfl : v = Value.bool b := r1
    refine pyReprObj_bool (fin (t' := s1.toks) ?_ (I1.tok _))
    rw [sizeLine_eq]
    cases b <;> decide
  · obtain ⟨as, rd⟩ := Dp.reads I1 d _ _ hd r1
    obtain rfl : v = Value.ref p := r1
    have un := room.r.units
    exact pyReprObj_of_reads rd a1 (fun z => by rw [a2] at z; cases z) room.g (by omega) (fun _ _ z => z) (fun h' t tk k => fin (t' := tk) a4 (I1.kept k)) (by omega)
end
/-- the whole def -/
theorem init_def {B newId initId : String} {tl : List Value} {P : Program} {w : World} {K : PySem.W.Frag} {mg : Str → Option Value} {base : Heap} {k : Nat} {qual me pn fn : Str} {st : Stmt} {f C : Addr} {fd : FuncData} {N : List Str} {ej : Expr} {p0 p1 p2 p7 p8 p9 p10 p11 p12 : Pos} {te : TE}
    (T : OexB B newId initId tl K C) (F : SupFn P K mg qual me st f C fd) (S : SupScope N [me, pn] me (defScope st))
    (hbody : defBody st = [.Expr (.Call (.Attribute (.Call (.Name "super" p0) [] [] p1) "__init__" p2) [ej] [] p7) p8, .Assign [.Attribute (.Name me p9) fn p10] (.Name pn p11) p12])
    (hno : PySem.W.findIn K (.ref C) fn = some none)
    (dbg : (me == ("__debug__" : Str)) = false ∧ (me == ("__classdict__" : Str)) = false ∧ (pn == ("__debug__" : Str)) = false ∧ (pn == ("__classdict__" : Str)) = false)
    (hev : ∀ X : Cx, ∃ pl : Sem Bool, eval (.Call (.Attribute (.Call (.Name "super" p0) [] [] p1) "__init__" p2) [ej] [] p7) X.env = (do
      let ov ← attributeBase (.Call (.Name "super" p0) [] [] p1) "__init__" X.env (eval (.Call (.Name "super" p0) [] [] p1) X.env)
      standAt p2.atName
      let (f, first) ← holding [ov] (getMethod ov "__init__" pl)
      callWith p7 f first (backTo p7 (starEach [ej] X.env)) [])) (hst : ∀ X : Cx, starEach [ej] X.env = (false, eval ej X.env) :: starEach [] X.env)
    (hsw : ∀ X : Cx, swapsWith (.Name pn p11) (some (.Attribute (.Name me p9) fn p10)) p12.line X.env = pure false)
    (hj : ∀ X : Cx, X.K = K → RoomG k X.A → X.N[1]? = some pn → Vis X.env.scope pn → PE X ej te)
    (ht : ∀ (σ : L2.St) (H : Hp) (Q : VK) (v : V), σ[1]? = some (some v) → Shw K H v → (∀ y : Str, Q (.str y) H) → te σ H Q) :
    FnG P w K mg base CX0 (k + 1) f fd [me, pn] (spInit C fn K) := by
  obtain ⟨oc, kV, doc, pm, ct, ccl, cl, od, an, cdd, cld, osl, ccs, csl, cda, cc, vs, file, tf, rfl, lk, cd, hcode, hvs, hfile, hcell⟩ := F.ex
  constructor
  · rintro _ H Q E ⟨a, v, rfl, _⟩
    rfl
  intro A fs s H as us xs Q E room env bind rel want
  obtain ⟨a, v, rfl, ea, sh, fin⟩ := want
  have inS : K.In s.heap := env.mod.kin.keeps fun b o z => (env.bs b o z).1
  have noLim : s.heap.NoLimit := env.mod.nolimit.keeps fun b o z => (env.bs b o z).1
  refine ks_codeAny_call_defAt room.r.depth (inS _ _ lk) rfl noLim (PySem.W.codeRec_of inS cd) rfl bind S.nocell (fun x hx => S.loc x.1 (List.of_mem_zip hx).1) (fun h1 hns hk => ?_) S.co S.gen S.kind
  have J := inv_startS (CX := CX0) (qual := qual) (f := f) (cdv := .ref cda) (E := E) (C := C) (tk := s.toks + ([me, pn].zip us).length) S room.r.hd env (by rfl) rel ⟨cl, cld, csl, hcell⟩ hns hk
  have n0 : N[0]? = some me := by
    have z : (N.take 2)[0]? = some me := by rw [show N.take 2 = [me, pn] from S.pre]; rfl
    rwa [List.getElem?_take_of_lt (by omega)] at z
  have n1 : N[1]? = some pn := by
    have z : (N.take 2)[1]? = some pn := by rw [show N.take 2 = [me, pn] from S.pre]; rfl
    rwa [List.getElem?_take_of_lt (by omega)] at z
  have room' : RoomG k (cxS CX0 P w K mg base N qual (defScope st) f (.ref cda) cc A fs s H E).A := ⟨room.r.deeper _, room.g⟩
  obtain ⟨pl, hpl⟩ := hev (cxS CX0 P w K mg base N qual (defScope st) f (.ref cda) cc A fs s H E)
  have loc1 := S.loc pn (by simp)
  have loc0 := S.loc me (by simp)
  show _root_.PySem.wpAt _ _ _ (execs (defBody st) _) _ _ _
  rw [hbody]
  refine ks_wpAt_execs_cons (ks_wpAt_mono (sup_stmt (X := cxS CX0 P w K mg base N qual (defScope st) f (.ref cda) cc A fs s H E) (D := { nx := fun σ G => σ = L2.start N [.ref a, v] ∧ G = H, rt := fun _ _ => False }) T J ea lk F.ar hcode hvs hfile hcell F.top F.sup rfl rfl rfl S.sup S.cls loc0 (i := 0) n0 rfl
    (hj _ rfl room' n1 (Or.inl loc1)) hpl (hst _) (ht _ _ _ v rfl sh fun y => ⟨ea, rfl, rfl⟩)) (fun fl s1 h1 => ?_) fun e s1 z => z)
  cases fl with
  | brk => exact h1.elim fun _ h => h.elim fun _ h => h.2.elim
  | cont => exact h1.elim fun _ h => h.elim fun _ h => h.2.elim
  | ret u => exact h1.elim fun _ h => h.elim fun _ h => h.elim fun _ h => h.2.2.elim
  | next =>
    obtain ⟨σ1, G1, J1, e1, e2⟩ := h1
    rw [e1, e2] at J1
    have b := ps_put (B := B) (newId := newId) (initId := initId) (tl := tl) (f := fn) (p' := p10) (pos := p12) (pe_var (X := cxS CX0 P w K mg base N qual (defScope st) f (.ref cda) cc A fs s H E) (i := 0) (x := me) (pos := p9) n0 (Or.inl loc0) dbg.1 dbg.2.1)
      (pe_var (X := cxS CX0 P w K mg base N qual (defScope st) f (.ref cda) cc A fs s H E) (i := 1) (x := pn) (pos := p11) n1 (Or.inl loc1) dbg.2.2.1 dbg.2.2.2) (hsw _)
    refine ks_wpAt_execs_cons (wpAt_of_wpAny (wpAny_mono (b.run [] s1 _ H { nx := fun σ G => Q .non G, rt := fun _ _ => False } J1 ?_) (fun fl s2 h2 => ?_) fun e s2 z => z))
    · exact ⟨v, rfl, _, rfl, a, C, rfl, T, hno, ea, fun dx n ne => fin dx n ne⟩
    · cases fl with
      | brk => exact h2.elim fun _ h => h.elim fun _ h => h.2.elim
      | cont => exact h2.elim fun _ h => h.elim fun _ h => h.2.elim
      | ret u => exact h2.elim fun _ h => h.elim fun _ h => h.elim fun _ h => h.2.2.elim
      | next =>
        obtain ⟨_, G, J2, q⟩ := h2
        refine wpAt_of_wpAny (wpAny_execs_nil ?_)
        exact ⟨.non, G, J2.os, J2.bare, J2.base, J2.hok, rfl, q⟩
end G9

namespace G9
open PySem PySem.Spec PyProof.Rows L2
theorem RoomG.make {k : Nat} {A : Around} (r : RoomG (k + 1) A) (C : Addr) (us : List Value) (kw : List (Str × Value)) : RoomG k (A.under (.builtin "type.__call__" ⟨.ref C :: us, kw⟩)) := by
  refine ⟨r.r.make C us kw, ?_⟩
  have g := r.g
  obtain ⟨h, d, f, gd, u⟩ := A
  dsimp only at g
  subst g
  rfl
theorem upd_upd {H : Hp} {a b : Addr} {o1 o2 o3 : HO} : upd (upd (upd H a o1) b o2) a o3 = upd (upd H b o2) a o3 := by
  funext c
  by_cases h : c = a
  · rw [h, upd_same, upd_same]
  · rw [upd_ne h, upd_ne h]
    by_cases hb : c = b
    · rw [hb, upd_same, upd_same]
    · rw [upd_ne hb, upd_ne hb, upd_ne h]
section
variable {X : Cx} {B newId initId : String} {tl : List Value} {C fI : Addr} {k : Nat} {fd : FuncData} {me pn f x : Str} {e : Expr} {te : TE} {p pos : Pos}
/-- C(e), C an own class with an own __init__: the object, tracked -/
theorem pe_makeI (T : OexB B newId initId tl X.K C) (iC : PySem.W.findIn X.K (.ref C) "__init__" = some (some (.ref fI))) (tI : PySem.W.typeIn X.K (.ref fI) = some (.type "function"))
    (F : FnG X.prog X.w X.K X.mg X.base CX0 k fI fd [me, pn] (spInit C f X.K)) (room : RoomG (k + 1) X.A) (hb : Binds X.K fd [me, pn] []) (hg : Gl X x) (hm : X.mg x = some (.ref C)) (he : PE X e te)
    (hs : starEach [e] X.env = (false, eval e X.env) :: starEach [] X.env := by rfl) (hdb : (x == ("__debug__" : Str)) = false := by decide) :
    PE X (.Call (.Name x p) [e] [] pos) (fun σ H Q => te σ H fun v H1 => ∀ a, H1 a = none → Shw X.K (upd H1 a (exo a C none)) v ∧ ∀ dx, H1 dx = none → dx ≠ a → Q (.ref a) (upd (upd H1 dx (exd dx [(f, v)])) a (exo a C (some dx)))) := by
  refine ⟨fun pins s σ H Q I h => ?_⟩
  obtain ⟨nm, q, N, bs, bm, sn, sub, ab, col, dd, k0, k1, k2, k3, k5, hC, hbm⟩ := T.cls
  refine wpAny_Call_Name_kw (ld_glob I hg hm ?_ hdb)
  refine PySem.W.callWith_K (h₀ := X.base) I.ok.mod.kin T.kC ?_ hs (by rfl)
  rw [hs]
  show wpAny _ _ (spliced ((false, eval e X.env) :: backTo pos (starEach [] X.env))) _ _ s
  refine Calls.spliced_cons (thn (he.run pins s σ H _ I h) fun u s1 ⟨v, H1, I1, r1, q1⟩ => ?_)
  refine Calls.spliced_nil ⟨I1.kIn, ?_⟩
  show wpAny _ _ (call (.ref C) [u]) _ _ _
  obtain ⟨hp, g, dr, tk, os⟩ := s1
  have large : hp.objs.size ≤ hp.objs.size + 1 := Nat.le_succ _
  have new : H1 (hp.objs.size + 1) = none := I1.hok.fresh large
  obtain ⟨sh, fin⟩ := q1 _ new
  have kk : ∀ b o, hp.get? b = some o → ((hp.push (PySem.W.kdv_tup [u])).push (PySem.HandSPX.excO C hp.objs.size)).get? b = some o := fun b o e => Heap.get?_push_of_some _ (Heap.get?_push_of_some _ e)
  have here : ((hp.push (PySem.W.kdv_tup [u])).push (PySem.HandSPX.excO C hp.objs.size)).get? (hp.objs.size + 1) = some (PySem.HandSPX.excO C hp.objs.size) := by heap_get
  have I2 : Inv X pins σ (upd H1 (hp.objs.size + 1) (exo (hp.objs.size + 1) C none)) ⟨(hp.push (PySem.W.kdv_tup [u])).push (PySem.HandSPX.excO C hp.objs.size), g, dr, tk, os⟩ :=
    I1.laid (t' := tk) (a := hp.objs.size + 1) (o := exo (hp.objs.size + 1) C none) (h' := (hp.push (PySem.W.kdv_tup [u])).push (PySem.HandSPX.excO C hp.objs.size)) kk large (exo_ok here)
  have want : spInit C f X.K [.ref (hp.objs.size + 1), v] (upd H1 (hp.objs.size + 1) (exo (hp.objs.size + 1) C none)) (fun r G => r = .non ∧ Q (.ref (hp.objs.size + 1)) G) fun _ _ _ => False := by
    refine ⟨_, v, rfl, upd_same, sh, fun dx n ne => ⟨rfl, ?_⟩⟩
    rw [upd_upd]
    refine fin dx ?_ ne
    rwa [upd_ne ne] at n
  refine wpAny_call (PySem.G9X.makeX T.T hbm (I1.kIn _ _ hC) (PySem.W.looks_findIn I1.kIn iC) (fun self => PySem.W.bind_fn I1.kIn self tI) (by show 1 ≤ sizeLine; rw [sizeLine_eq]; omega)
    (codeAny_mono (F.goes _ X.stack _ _ ⟨[Value.ref (hp.objs.size + 1), u], []⟩ [Value.ref (hp.objs.size + 1), u] [V.ref (hp.objs.size + 1), v] _ (fun _ _ _ => False) (room.make C [u] []) (I2.env0.make C [u] []) (hb _ [Value.ref (hp.objs.size + 1), u] I2.kIn rfl) (.cons rfl (.cons r1 .nil)) want) fun r s' hq' => ?_))
  cases r with
  | error er => exact absurd hq' (by intro z; exact z)
  | ok fl =>
    cases fl with
    | ret w =>
      obtain ⟨rv, H2, I3, rw', e1, q2⟩ := I2.after hq'
      subst e1
      exact ⟨rw', .ref (hp.objs.size + 1), H2, I3, rfl, q2⟩
    | next => exact False.elim hq'
    | brk => exact False.elim hq'
    | cont => exact False.elim hq'
/-- the same, raised at once -/
theorem pmk_makeI (T : OexB B newId initId tl X.K C) (iC : PySem.W.findIn X.K (.ref C) "__init__" = some (some (.ref fI))) (tI : PySem.W.typeIn X.K (.ref fI) = some (.type "function"))
    (F : FnG X.prog X.w X.K X.mg X.base CX0 k fI fd [me, pn] (spInit C f X.K)) (room : RoomG (k + 1) X.A) (hb : Binds X.K fd [me, pn] []) (hg : Gl X x) (hm : X.mg x = some (.ref C)) (he : PE X e te)
    (hs : starEach [e] X.env = (false, eval e X.env) :: starEach [] X.env := by rfl) (hdb : (x == ("__debug__" : Str)) = false := by decide) :
    PMk X (.Call (.Name x p) [e] [] pos) (fun σ H Q => te σ H fun v H1 => (∀ a, H1 a = none → Shw X.K (upd H1 a (exo a C none)) v) ∧ ∀ d, H1 d = none → Q (.ref C) (some d) (upd H1 d (.xd [(f, v)]))) := by
  intro pins s σ H Q I h
  obtain ⟨nm, q, N, bs, bm, sn, sub, ab, col, dd, k0, k1, k2, k3, k5, hC, hbm⟩ := T.cls
  refine wpAny_Call_Name_kw (ld_glob I hg hm ?_ hdb)
  refine PySem.W.callWith_K (h₀ := X.base) I.ok.mod.kin T.kC ?_ hs (by rfl)
  rw [hs]
  show wpAny _ _ (spliced ((false, eval e X.env) :: backTo pos (starEach [] X.env))) _ _ s
  refine Calls.spliced_cons (thn (he.run pins s σ H _ I h) fun u s1 ⟨v, H1, I1, r1, q1⟩ => ?_)
  refine Calls.spliced_nil ⟨I1.kIn, ?_⟩
  show wpAny _ _ (call (.ref C) [u]) _ _ _
  obtain ⟨hp, g, dr, tk, os⟩ := s1
  have large : hp.objs.size ≤ hp.objs.size + 1 := Nat.le_succ _
  have new : H1 (hp.objs.size + 1) = none := I1.hok.fresh large
  obtain ⟨sh, fin⟩ := q1
  have kk : ∀ b o, hp.get? b = some o → ((hp.push (PySem.W.kdv_tup [u])).push (PySem.HandSPX.excO C hp.objs.size)).get? b = some o := fun b o e => Heap.get?_push_of_some _ (Heap.get?_push_of_some _ e)
  have here : ((hp.push (PySem.W.kdv_tup [u])).push (PySem.HandSPX.excO C hp.objs.size)).get? (hp.objs.size + 1) = some (PySem.HandSPX.excO C hp.objs.size) := by heap_get
  have I2 : Inv X pins σ (upd H1 (hp.objs.size + 1) (exo (hp.objs.size + 1) C none)) ⟨(hp.push (PySem.W.kdv_tup [u])).push (PySem.HandSPX.excO C hp.objs.size), g, dr, tk, os⟩ :=
    I1.laid (t' := tk) (a := hp.objs.size + 1) (o := exo (hp.objs.size + 1) C none) (h' := (hp.push (PySem.W.kdv_tup [u])).push (PySem.HandSPX.excO C hp.objs.size)) kk large (exo_ok here)
  have want : spInit C f X.K [.ref (hp.objs.size + 1), v] (upd H1 (hp.objs.size + 1) (exo (hp.objs.size + 1) C none)) (fun r G => r = .non ∧ ∃ dx, H1 dx = none ∧ dx ≠ hp.objs.size + 1 ∧ G = upd (upd (upd H1 (hp.objs.size + 1) (exo (hp.objs.size + 1) C none)) dx (exd dx [(f, v)])) (hp.objs.size + 1) (exo (hp.objs.size + 1) C (some dx))) fun _ _ _ => False := by
    refine ⟨_, v, rfl, upd_same, sh _ new, fun dx n ne => ⟨rfl, dx, ?_, ne, rfl⟩⟩
    rwa [upd_ne ne] at n
  refine wpAny_call (PySem.G9X.makeX T.T hbm (I1.kIn _ _ hC) (PySem.W.looks_findIn I1.kIn iC) (fun self => PySem.W.bind_fn I1.kIn self tI) (by show 1 ≤ sizeLine; rw [sizeLine_eq]; omega)
    (codeAny_mono (F.goes _ X.stack _ _ ⟨[Value.ref (hp.objs.size + 1), u], []⟩ [Value.ref (hp.objs.size + 1), u] [V.ref (hp.objs.size + 1), v] _ (fun _ _ _ => False) (room.make C [u] []) (I2.env0.make C [u] []) (hb _ [Value.ref (hp.objs.size + 1), u] I2.kIn rfl) (.cons rfl (.cons r1 .nil)) want) fun r s' hq' => ?_))
  cases r with
  | error er => exact absurd hq' (by intro z; exact z)
  | ok fl =>
    cases fl with
    | ret w =>
      obtain ⟨rv, H2, os2, bare2, un2, hok2, rw', e1, dx, n, ne, eH⟩ := hq'
      subst e1
      obtain ⟨h2, g2, d2, t2, os'⟩ := s'
      refine ⟨rw', mk_end (raises_own T.exC T.tyC) I1 large kk un2 hok2 os2 bare2 (d := dx) (fs := [(f, v)]) (by rw [eH, upd_same]) (by rw [eH, upd_ne ne, upd_same]) n ?_⟩
      have same : upd (del H2 (hp.objs.size + 1)) dx (.xd [(f, v)]) = upd H1 dx (.xd [(f, v)]) := by
        funext b
        by_cases hb : b = dx
        · rw [hb, upd_same, upd_same]
        · rw [upd_ne hb, upd_ne hb]
          by_cases ha : b = hp.objs.size + 1
          · rw [ha, del_same, new]
          · rw [del_ne ha, eH, upd_ne ha, upd_ne hb, upd_ne ha]
      rw [same]
      exact fin dx n
    | next => exact False.elim hq'
    | brk => exact False.elim hq'
    | cont => exact False.elim hq'

/-- C(e), C an own class without own __init__: the object, tracked -/
theorem pe_make0 {bmB : List Value} {iI : String} (F : ExcBaseFacts B newId iI bmB) (q : PySem.W.excIn X.K C bmB newId = true) (gC : X.mg x = some (.ref C)) (kC : PySem.W.keepIn X.K (.ref C) = true) (hg : Gl X x) (he : PE X e te)
    (hs : starEach [e] X.env = (false, eval e X.env) :: starEach [] X.env := by rfl) (hdb : (x == ("__debug__" : Str)) = false := by decide) :
    PE X (.Call (.Name x p) [e] [] pos) (fun σ H Q => te σ H fun _ H1 => ∀ a, H1 a = none → Q (.ref a) (upd H1 a (exo a C none))) := by
  refine ⟨fun pins s σ H Q I h => ?_⟩
  refine wpAny_Call_Name_kw (ld_glob I hg gC ?_ hdb)
  refine PySem.W.callWith_K (h₀ := X.base) I.ok.mod.kin kC ?_ hs (by rfl)
  rw [hs]
  show wpAny _ _ (spliced ((false, eval e X.env) :: backTo pos (starEach [] X.env))) _ _ s
  refine Calls.spliced_cons (thn (he.run pins s σ H _ I h) fun u s1 ⟨v, H1, I1, r1, q1⟩ => ?_)
  refine Calls.spliced_nil ⟨I1.kIn, ?_⟩
  show wpAny _ _ (call (.ref C) [u]) _ _ _
  obtain ⟨bm, N, nm, qn, bs, hdct, sn, sub, ab, col, dd, k0, k1, k2, k3, k5, mN, hC, hN, hni, T⟩ := exc_obj I1.kIn q
  refine wpAny_call_exc_subT F T hC hN hni (fun h' a hm => ?_) (by show 1 ≤ sizeLine; rw [sizeLine_eq]; omega)
  have hn : H1 a = none := I1.hok.gone hm.new
  obtain ⟨t, ht, _, _⟩ := hm.there
  exact ⟨.ref a, upd H1 a (exo a C none), I1.laidN hm.keeps hm.new hn (exo_ok ht), rfl, q1 a hn⟩
/-- the same, raised at once -/
theorem pmk_make0 {bmB : List Value} {iI : String} (F : ExcBaseFacts B newId iI bmB) (q : PySem.W.excIn X.K C bmB newId = true) (gC : X.mg x = some (.ref C)) (kC : PySem.W.keepIn X.K (.ref C) = true) (r : Raises X (.ref C)) (hg : Gl X x) (he : PE X e te)
    (hs : starEach [e] X.env = (false, eval e X.env) :: starEach [] X.env := by rfl) (hdb : (x == ("__debug__" : Str)) = false := by decide) :
    PMk X (.Call (.Name x p) [e] [] pos) (fun σ H Q => te σ H fun _ H1 => Q (.ref C) none H1) := by
  intro pins s σ H Q I h
  refine wpAny_Call_Name_kw (ld_glob I hg gC ?_ hdb)
  refine PySem.W.callWith_K (h₀ := X.base) I.ok.mod.kin kC ?_ hs (by rfl)
  rw [hs]
  show wpAny _ _ (spliced ((false, eval e X.env) :: backTo pos (starEach [] X.env))) _ _ s
  refine Calls.spliced_cons (thn (he.run pins s σ H _ I h) fun u s1 ⟨v, H1, I1, r1, q1⟩ => ?_)
  refine Calls.spliced_nil ⟨I1.kIn, ?_⟩
  show wpAny _ _ (call (.ref C) [u]) _ _ _
  obtain ⟨bm, N, nm, qn, bs, hdct, sn, sub, ab, col, dd, k0, k1, k2, k3, k5, mN, hC, hN, hni, T⟩ := exc_obj I1.kIn q
  refine wpAny_call_exc_subT F T hC hN hni (fun h' a hm => ?_) (by show 1 ≤ sizeLine; rw [sizeLine_eq]; omega)
  exact mk_of I1 hm r q1 (I1.hok.gone hm.new)
end
end G9

namespace G9
open PySem PySem.Spec PyProof.Rows L2
/-! ### exceptions as values: what is told of them -/
/-- at a: an exception of the class cls, its dict od; raised or not -/
def exv (a : Addr) (cls : Value) (od : Option Addr) : HO := .ext fun h => ∃ (oe : Obj) (vs : Array Value), h.get? a = some oe ∧ Zc cls od oe ∧ oe.data = .fields vs
def XIn (H : Hp) (a C : Addr) (od : Option Addr) : Prop := ∃ φ, H a = some (.ext φ) ∧ ∀ h, φ h → ∃ (oe : Obj) (vs : Array Value), h.get? a = some oe ∧ Zc (.ref C) od oe ∧ oe.data = .fields vs
def XD (H : Hp) (d : Addr) (fs : List (Str × V)) : Prop := H d = some (exd d fs) ∨ H d = some (.xd fs)
/-- the exception, and its dict if it has one -/
def XAt (H : Hp) (a C : Addr) (od : Option Addr) (fs : List (Str × V)) : Prop := XIn H a C od ∧ (match od with | none => fs = [] | some d => XD H d fs)
theorem xin_exo {H : Hp} {a C : Addr} {od : Option Addr} (h : H a = some (exo a C od)) : XIn H a C od := ⟨_, h, fun _ ⟨_, e⟩ => ⟨_, _, e, ⟨rfl, rfl⟩, rfl⟩⟩
theorem xin_exv {H : Hp} {a C : Addr} {od : Option Addr} (h : H a = some (exv a (.ref C) od)) : XIn H a C od := ⟨_, h, fun _ e => e⟩
theorem xat_exo0 {H : Hp} {a C : Addr} (h : H a = some (exo a C none)) : XAt H a C none [] := ⟨xin_exo h, rfl⟩
theorem xat_exo {H : Hp} {a C d : Addr} {fs : List (Str × V)} (h : H a = some (exo a C (some d))) (hd : H d = some (exd d fs)) : XAt H a C (some d) fs := ⟨xin_exo h, Or.inl hd⟩
theorem xin_at {P : Program} {w : World} {H : Hp} {h : Heap} {a C : Addr} {od : Option Addr} (x : XIn H a C od) (ok : HOk P w H h) : ∃ (oe : Obj) (vs : Array Value), h.get? a = some oe ∧ Zc (.ref C) od oe ∧ oe.data = .fields vs := by
  obtain ⟨φ, e, k⟩ := x
  have y : ObjOk P w H h a (.ext φ) := ok a _ e
  exact k h y.1
theorem xd_at {P : Program} {w : World} {H : Hp} {h : Heap} {d : Addr} {fs : List (Str × V)} (x : XD H d fs) (ok : HOk P w H h) : ∃ mA, h.Ns1 d mA ∧ ∀ f, RelO (fs.lookup f) (mA f) := by
  rcases x with e | e
  · exact exd_at ok e
  · exact ok d _ e
theorem xat_inst {P : Program} {w : World} {H : Hp} {h : Heap} {a C : Addr} {od : Option Addr} {fs : List (Str × V)} (x : XAt H a C od fs) (ok : HOk P w H h) : ∃ (oe : Obj) (odo : Option Obj), PySem.W.InstAt h a oe C odo := by
  obtain ⟨x1, x2⟩ := x
  obtain ⟨oe, vs, e, z, dt⟩ := xin_at x1 ok
  have no : PySem.W.notCls oe = true := by unfold PySem.W.notCls; rw [dt] <;> rfl
  cases od with
  | none => exact ⟨oe, none, e, z.1, no, by rw [z.2]; trivial⟩
  | some d =>
    obtain ⟨mA, ⟨oD, es, ep, eD, r⟩, _⟩ := xd_at x2 ok
    exact ⟨oe, some oD, e, z.1, no, by rw [z.2]; exact eD⟩
theorem exv_ok {P : Program} {w : World} {H : Hp} {h : Heap} {a : Addr} {cls : Value} {od : Option Addr} {oe : Obj} {vs : Array Value} (e : h.get? a = some oe) (z : Zc cls od oe) (d : oe.data = .fields vs) : ObjOk P w H h a (exv a cls od) :=
  ⟨⟨oe, vs, e, z, d⟩, ⟨oe, e⟩, fun _ _ ⟨o, v, q, r⟩ k => ⟨o, v, k o q, r⟩⟩

/-! ### isinstance -/
def rIsX (K : PySem.W.Frag) : List V → Hp → VK → Prop := fun xs H Q => ∃ (a C : Addr) (od : Option Addr) (fs : List (Str × V)) (c : V) (cv : Value) (b : Bool), xs = [.ref a, c] ∧ ExcC K C ∧ XAt H a C od fs ∧ (∀ u, RelV c u → u = cv) ∧ PySem.W.kitOne K (.ref C) cv = some b ∧ Q (.bl b) H
theorem call_isX {X : Cx} : CallR X (.builtin "isinstance") (rIsX X.K) := by
  intro pins s σ H xs us Q I r h
  obtain ⟨a, C, od, fs, c, cv, b, rfl, T, x, hc, e, q⟩ := h
  cases r with
  | cons ra r2 =>
    cases r2 with
    | cons rc r3 =>
      cases r3
      cases ra
      have ec := hc _ rc
      subst ec
      obtain ⟨oe, odo, J⟩ := xat_inst x I.hok
      obtain ⟨cd, hcl, _⟩ := PySem.W.any_some T.hd
      exact PySem.W.kia_one (PySem.W.kitx_exc (by rw [hcl] <;> rfl) T.hg T.hk T.hs T.ha T.hn T.ht T.hm) I.kIn J e (fun z => nomatch z) fun tk => ⟨.bl b, H, I.kept (t' := tk) fun _ _ z => z, rfl, q⟩

/-! ### e.f -/
def tXat (K : PySem.W.Frag) (n : Str) (te : TE) : TE := fun σ H Q => te σ H fun x H1 => ∃ (a C d : Addr) (fs : List (Str × V)) (v : V), x = .ref a ∧ XAt H1 a C (some d) fs ∧ XfC K C ∧ PySem.W.findIn K (.ref C) n = some none ∧ fs.lookup n = some v ∧ Q v H1
theorem pe_xat {X : Cx} {e : Expr} {te : TE} {pos : Pos} {n : Str} (he : PE X e te) (hb : attributeBase e n X.env (eval e X.env) = eval e X.env := by rfl) : PE X (.Attribute e n pos) (tXat X.K n te) := by
  refine ⟨fun pins s σ H Q I h => ?_⟩
  refine attr_of hb (thn (he.run pins s σ H _ I h) fun u s1 hh => ?_)
  obtain ⟨x, H1, I1, rx, a, C, d, fs, v, ex, ⟨x1, x2⟩, T, hno, l, q⟩ := hh
  subst ex
  obtain rfl : u = Value.ref a := rx
  obtain ⟨oe, vs, e0, z, dt⟩ := xin_at x1 I1.hok
  obtain ⟨mA, hns, hr⟩ := xd_at x2 I1.hok
  obtain ⟨od, ho, hl⟩ := lookIn_ns hns
  obtain ⟨u, hu, ru⟩ := RelO.some_of (v := v) (o := mA n) (by rw [← l]; exact hr n)
  have J : PySem.W.InstAt s1.heap a oe C (some od) := ⟨e0, z.1, by unfold PySem.W.notCls; rw [dt] <;> rfl, by rw [z.2]; exact ho⟩
  exact HandSPX.exc_get I1.kIn J T.ga T.gg T.exC (PySem.W.findObj_own T.hdC hno rfl (by rw [hl, hu])) (handed_of ru) ⟨v, H1, I1.tok _, ru, q⟩

/-! ### defs that keep their promise also where an exception is handled -/
structure RoomW (k : Nat) (A : Around) : Prop where
  dp : A.depth + 3 * k + 5 < recursionLimit
  un : A.units + 16 * k + 200 < cLine
  g : A.guards = some []
theorem RoomW.of {k : Nat} {A : Around} (r : RoomG k A) : RoomW k A := ⟨r.r.dp, r.r.un, r.g⟩
theorem RoomW.deeper {k : Nat} {A : Around} (r : RoomW (k + 1) A) (env : Env) : RoomW k (A.deeper env) :=
  ⟨by have := r.dp; show A.depth + 1 + 3 * k + 5 < _; omega, by have := r.un; show A.units + 3 + 16 * k + 200 < _; omega, r.g⟩
theorem RoomW.mark {k : Nat} {A : Around} (r : RoomW k A) (v : Option Value) : RoomW k (A.mark v) := ⟨r.dp, r.un, r.g⟩
theorem RoomW.down {j k : Nat} {A : Around} (r : RoomW k A) (l : j ≤ k) : RoomW j A := ⟨by have := r.dp; omega, by have := r.un; omega, r.g⟩
theorem RoomW.depth {k : Nat} {A : Around} (r : RoomW k A) : A.depth < recursionLimit := by have := r.dp; omega
structure FnW (P : Program) (w : World) (K : PySem.W.Frag) (mg : Str → Option Value) (base : Heap) (CX : CXT) (k : Nat) (f : Addr) (fd : FuncData) (ps : List Str) (sp : Sp) : Prop where
  count : ∀ vs H Q E, sp vs H Q E → vs.length = ps.length
  goes : ∀ (A : Around) (fs : List Env) (s : Shared) (H : Hp) (as : Args) (us : List Value) (vs : List V) (Q : VK) (E : XK), RoomW k A → Env0 P w K mg base A fs s H →
    BindsTo s fd as (ps.zip us) → Vals vs us → sp vs H Q E → codeAny (model P w) A (.call (.ref f) as) (CR CX fs P w H s Q E) s
section
variable {P : Program} {w : World} {K : PySem.W.Frag} {mg : Str → Option Value} {base : Heap} {CX : CXT} {k : Nat} {f : Addr} {fd : FuncData} {ps N : List Str} {sp : Sp}
theorem FnW.g (F : FnW P w K mg base CX k f fd ps sp) : FnG P w K mg base CX k f fd ps sp := ⟨F.count, fun A fs s H as us vs Q E r => F.goes A fs s H as us vs Q E (.of r)⟩
theorem FnW.up {j : Nat} (F : FnW P w K mg base CX j f fd ps sp) (l : j ≤ k) : FnW P w K mg base CX k f fd ps sp := ⟨F.count, fun A fs s H as us vs Q E r => F.goes A fs s H as us vs Q E (r.down l)⟩
/-- the context of such a body: nothing is said of an exception that is handled -/
def cxW (CX : CXT) (P : Program) (w : World) (K : PySem.W.Frag) (mg : Str → Option Value) (base : Heap) (N : List Str) (qual : Str) (scope : Scope) (f : Addr) (cd : Value) (A : Around) (fs : List Env) (s : Shared) (H : Hp) (E : XK) : Cx :=
  { cxOf CX P w K mg base N qual scope f cd A fs s H E with calm := false }
/-- what is known of a state where one is handled is known of it where none is -/
theorem inv_uncalm {qual : Str} {scope : Scope} {cd : Value} {A : Around} {fs : List Env} {s s1 : Shared} {H G : Hp} {E : XK} {pins : List (Addr × Obj)} {σ : L2.St}
    (I : Inv (cxOf CX P w K mg base N qual scope f cd { A with handled := none } fs s H E) pins σ G s1) (he : (envOfC qual scope s.heap.objs.size f cd) = (envOfC qual scope s.heap.objs.size f cd)) : Inv (cxW CX P w K mg base N qual scope f cd A fs s H E) pins σ G s1 :=
  ⟨⟨I.ok.mod, I.ok.kind, I.ok.glob, I.ok.blt, I.ok.above, I.ok.inj, I.ok.has, I.ok.cab, fun z => Bool.noConfusion (show false = true from z), I.ok.frames, I.ok.stk, I.ok.exf, I.ok.bs, I.ok.bsz, I.ok.noex, I.ok.exfs, I.ok.funs, I.ok.frf⟩, I.os, I.bare, I.base, I.loc, I.cell, I.free, I.freeC, I.pin, I.hok, I.len⟩
theorem by_bodyW {name qual : Str} {params : Arguments} {body : List Stmt} {scope : Scope} {dV kV doc pm cdv ct oc : Value} {an od : Option Addr} {osl : Array (Option Value)}
    (at_ : K.lookup f = some ⟨oc, od, .func (PySem.W.fnOf name qual params body scope dV kV doc pm an cdv ct), osl⟩) (cd : PySem.W.codeIn K cdv qual = true) (S : FnScope N ps scope)
    (count : ∀ vs H Q E, sp vs H Q E → vs.length = ps.length)
    (hb : ∀ (A : Around) (fs : List Env) (s : Shared) (H : Hp) (vs : List V) (Q : VK) (E : XK), RoomW k (A.deeper (envOfC qual scope s.heap.objs.size f cdv)) → sp vs H Q E →
      ∃ t, PSs (cxW CX P w K mg base N qual scope f cdv A fs s H E) body t ∧ t { nx := fun _ G => Q .non G, rt := Q } (start N vs) H) :
    FnW P w K mg base CX (k + 1) f (PySem.W.fnOf name qual params body scope dV kV doc pm an cdv ct) ps sp := by
  constructor
  · exact count
  intro A fs s H as us vs Q E room env bind rel want
  have same := count _ _ _ _ want
  have inS : K.In s.heap := env.mod.kin.keeps fun b o z => (env.bs b o z).1
  have noLim : s.heap.NoLimit := env.mod.nolimit.keeps fun b o z => (env.bs b o z).1
  have kinds : ∀ y ∈ ps.zip us, scope.names.lookup y.1 = some .local ∨ (scope.names.lookup y.1 = some .cell ∧ ((cellsFrom (s.heap.objs.size + 1) scope.names []).lookup y.1).isSome = true) := by
    rintro ⟨n, v⟩ hy
    rcases S.par n (List.of_mem_zip hy).1 with z | z
    · exact Or.inl z
    · exact Or.inr ⟨z, PySem.W.cellsFrom_some _ _ _ (.inl z)⟩
  refine codeAny_call_function room.depth (inS _ _ at_) rfl S.co S.gen rfl (PySem.W.codeRec_of inS cd) (bind _ _ _ _ ?_)
  refine wpAny_newFunctionEnv_cells S.kind kinds fun en ee s1 x => ?_
  subst ee
  refine ⟨noLim.keeps x.toInCall.keep, codeAny_func ?_⟩
  obtain ⟨t, ht, hq⟩ := hb A fs s H vs Q E (room.deeper _) want
  have env' : Env0 P w K mg base { A with handled := none } fs s H := ⟨env.frames, env.mod, env.bs, env.bsz, env.funs, env.frf, env.hok, env.bare⟩
  have J := inv_uncalm (A := A) (inv_start (CX := CX) (E := E) S (show { A with handled := none }.handled = none from rfl) env' same rel x) rfl
  have done : ∀ {τ : L2.St} {G : Hp} {v : V} {u : Value} {z : Shared}, Inv (cxW CX P w K mg base N qual scope f cdv A fs s H E) [] τ G z → RelV v u → Q v G → CE fs P w H s Q u z :=
    fun {_ G v _ _} I r q => ⟨v, G, I.os, I.bare, I.base, I.hok, r, q⟩
  refine wpAny_mono (ht.run [] s1 (start N vs) H _ J hq) ?_ fun _ _ z => z
  intro fl z hz
  cases fl with
  | next =>
    obtain ⟨_, _, I, q⟩ := hz
    exact done (v := V.non) (u := Value.none) I rfl q
  | ret u =>
    obtain ⟨_, _, _, I, r, q⟩ := hz
    exact done I r q
  | brk => exact hz.elim fun _ h => h.elim fun _ h => h.2.elim
  | cont => exact hz.elim fun _ h => h.elim fun _ h => h.2.elim
theorem okW {x qual : Str} {st : Stmt} (F : Fun K x qual st f fd) (S : FnScope N ps (defScope st)) (count : ∀ vs H Q E, sp vs H Q E → vs.length = ps.length)
    (hb : ∀ (cdv : Value) (A : Around) (fs : List Env) (s : Shared) (H : Hp) (vs : List V) (Q : VK) (E : XK), RoomW k (A.deeper (envOfC qual (defScope st) s.heap.objs.size f cdv)) → sp vs H Q E →
      ∃ t, PSs (cxW CX0 P w K mg base N qual (defScope st) f cdv A fs s H E).nox (defBody st) t ∧ t { nx := fun _ G => Q .non G, rt := Q } (start N vs) H) : FnW P w K mg base CX0 (k + 1) f fd ps sp := by
  obtain ⟨_, _, _, _, _, _, cdv, _, _, rfl, lk, cd⟩ := F.ex
  refine by_bodyW lk cd S count fun A fs s H vs Q E room want => ?_
  obtain ⟨t, h, q⟩ := hb cdv A fs s H vs Q E room want
  exact ⟨t, h.nox, q⟩
end
section
variable {X : Cx} {CX : CXT} {k : Nat} {f : Addr} {fd : FuncData} {ps : List Str} {sp : Sp} {dvs : List V} {ds : List Value} {E : XK} {x : Str} {p pos : Pos} {e : Expr} {es : List Expr} {t : TA}
theorem pe_callW (F : FnW X.prog X.w X.K X.mg X.base CX k f fd ps sp) (room : RoomW k X.A) (hg : Gl X x) (hm : X.mg x = some (.ref f)) (hk : PySem.W.keepIn X.K (.ref f) = true) (hb : Binds X.K fd ps ds) (hd : Vals dvs ds) (hx : Passes CX X E)
    (ha : PA X (e :: es) t) (nd : (x == ("__debug__" : Str)) = false := by decide) (he : starEach (e :: es) X.env = (false, eval e X.env) :: starEach es X.env := by rfl) (hp : (backTo pos (starEach es X.env)).any (·.1) = false := by rfl) :
    PE X (.Call (.Name x p) (e :: es) [] pos) (tCall sp dvs E t) := by
  constructor
  intro pins s σ H Q I want
  refine wpAny_Call_Name_kw (ld_glob I hg hm ?_ nd)
  refine PySem.W.callWith_K (h₀ := X.base) I.ok.mod.kin hk (thn (ha.run pos pins s σ H _ I want) fun us z ⟨vs, G, J, r, q⟩ => ⟨J.kIn, ?_⟩) he hp
  have rr : Vals (vs ++ dvs) (us ++ ds) := r.append hd
  have len : (us ++ ds).length = ps.length := rr.length.symm.trans (F.count _ _ _ _ q)
  refine wpAny_call (codeAny_mono (F.goes X.A X.stack z G ⟨us, []⟩ (us ++ ds) (vs ++ dvs) Q E room J.env0 (hb z us J.kIn len) rr q) ?_)
  intro res z' hz
  match res, hz with
  | .error e, hz => exact hx pins σ G z e z' J hz
  | .ok (.ret u), hz => exact J.after hz
end
end G9

namespace PySem
namespace G9X
open W Calls
section
variable {M : Model} {A : Around} {E : Value → Shared → Prop} {s : Shared} {K : Frag}
theorem loop_pass {β : Type} {init : β} {body : Value → β → Sem (ForInStep β)} {Q : β → Shared → Prop} : ∀ {cs : List Value}, (∀ c ∈ cs, ∀ {P : ForInStep β → Shared → Prop}, P (.yield init) s → wpAny M A (body c init) P E s) → Q init s → wpAny M A (forIn cs init body) Q E s
  | [], _, q => wpAny_pure q
  | c :: cs, h, q => by
    rw [List.forIn_cons]
    refine wpAny_bind (h c List.mem_cons_self ?_)
    exact loop_pass (cs := cs) (fun d hd => h d (List.mem_cons_of_mem _ hd)) q
theorem loop_any {β : Type} {init found : β} {body : Value → β → Sem (ForInStep β)} {f : Value → Bool} {Q : β → Shared → Prop} : ∀ {cs : List Value}, (∀ c ∈ cs, ∀ {P : ForInStep β → Shared → Prop}, P (if f c then .done found else .yield init) s → wpAny M A (body c init) P E s) → Q (if cs.any f then found else init) s → wpAny M A (forIn cs init body) Q E s
  | [], _, q => wpAny_pure q
  | c :: cs, h, q => by
    rw [List.forIn_cons]
    refine wpAny_bind (h c List.mem_cons_self ?_)
    rw [List.any_cons] at q
    cases hc : f c with
    | true =>
      rw [hc, Bool.true_or, if_pos rfl] at q
      exact wpAny_pure q
    | false =>
      rw [hc, Bool.false_or] at q
      exact loop_any (cs := cs) (fun d hd => h d (List.mem_cons_of_mem _ hd)) q
def exF (K : Frag) (cls c : Value) : Bool := (exmOne K cls c).getD false
theorem exm_all : ∀ {cs : List Value} {cls : Value} {b : Bool}, exmAny K cls cs = some b → (∀ c ∈ cs, exmOne K cls c = some (exF K cls c)) ∧ b = cs.any (exF K cls)
  | [], cls, b, h => ⟨(fun _ z => nomatch z), (Option.some.inj (show some false = some b from h)).symm⟩
  | c :: cs, cls, b, h => by
    obtain ⟨b1, d1, x1, y1, rfl⟩ := exmAny_cons h
    obtain ⟨h1, h2⟩ := exm_all y1
    have e1 : exF K cls c = b1 := by unfold exF; rw [x1]; rfl
    refine ⟨fun d hd => ?_, by rw [List.any_cons, e1, ← h2]⟩
    rcases List.mem_cons.mp hd with z | z
    · rw [z, e1]
      exact x1
    · exact h1 d z
theorem exm_tupN {cs : List Value} {cls : Value} {tp e : Addr} {b : Bool} {h : Heap} (X : K.In h) (LT : Looks M h (typeOf (.ref e)) cls) (hp : h.get? tp = some { cls := .type "tuple", data := .seq cs.toArray }) (hx : exmAny K cls cs = some b) :
    Looks M h (excMatches (.ref e) (.ref tp)) b := by
  intro A Q E s k₀ q
  obtain ⟨hh, g, d, tk, os⟩ := s
  have k : ∀ b o, h.get? b = some o → hh.get? b = some o := k₀
  have L0 : Looks M h (isInstance (.ref tp) (.type "tuple")) true := ((Looks.ld hp).andThen .now).andThen (Looks.of_pure isSubtype_tuple_tuple)
  obtain ⟨h1, h2⟩ := exm_all hx
  have L0 := L0.keeps k
  have LT := LT.keeps k
  have hp' := k _ _ hp
  unfold excMatches
  refine wpAny_bind (L0.at ?_)
  dsimp only
  rw [if_pos rfl]
  first
    | refine wpAny_bind (wpAny_seqItems hp' rfl ?_)
    | refine wpAny_bind (wpAny_bind (wpAny_seqItems hp' rfl (wpAny_pure ?_)))
  dsimp only [Option.getD_some, Option.getD]
  first
    | refine wpAny_bind (loop_pass (fun c hc {P} hP => ?_) ?_)
    | refine wpAny_bind (wpAny_pure (wpAny_bind (loop_pass (fun c hc {P} hP => ?_) ?_)))
  · obtain ⟨e1, _⟩ := exm_cls (M := M) X (h1 c hc)
    refine wpAny_bind ((e1.keeps k).at ?_)
    exact wpAny_pure hP
  refine wpAny_bind (LT.at ?_)
  refine wpAny_bind (loop_any (f := exF K cls) (found := (some true, ())) (fun c hc {P} hP => ?_) ?_)
  · obtain ⟨_, S1⟩ := exm_cls (M := M) X (h1 c hc)
    refine wpAny_bind ((S1.keeps k).at ?_)
    cases hf : exF K cls c with
    | true =>
      rw [hf] at hP
      exact wpAny_pure hP
    | false =>
      rw [hf] at hP
      exact wpAny_pure hP
  · rw [h2] at q
    cases hf : cs.any (exF K cls) with
    | true =>
      rw [hf] at q
      exact wpAny_pure q
    | false =>
      rw [hf] at q
      exact wpAny_pure q
end
end G9X
end PySem

namespace G9
open PySem PySem.Spec PyProof.Rows L2
/-! ### try: several clauses, classes alone or in tuples, with a name or without; the caught exception stands as a value in the suite -/
inductive NamesL (X : Cx) : List Expr → List Value → Prop
  | nil : NamesL X [] []
  | cons {x : Str} {c : Value} {p : Pos} {es : List Expr} {cs : List Value} (h : Names X x c) (r : NamesL X es cs) : NamesL X (.Name x p :: es) (c :: cs)
inductive TestE (X : Cx) : Expr → List Value → Prop
  | one {x : Str} {c : Value} {p : Pos} (h : Names X x c) : TestE X (.Name x p) [c]
  | tup {es : List Expr} {cs : List Value} {n : Nat} {p : Pos} (h : NamesL X es cs) (hl : cs.length ≤ 100) : TestE X (.Tuple es n p) cs
structure Hd where
  cs : List Value
  slot : Option Nat
  ts : Addr → List (Addr × Obj) → TS
def endsAt (slot : Option Nat) (D : Ends) : Ends := match slot with
  | none => D
  | some i => { nx := fun σ H => D.nx (σ.set i none) H, rt := D.rt, bk := fun σ H => D.bk (σ.set i none) H, ct := fun σ H => D.ct (σ.set i none) H }
def setAt (slot : Option Nat) (σ : L2.St) (a : Addr) : L2.St := match slot with
  | none => σ
  | some i => σ.set i (some (.ref a))
def wX (K : PySem.W.Frag) (Wout : WX) (D : Ends) : List Hd → WX
  | [] => Wout
  | h :: r => fun cls d σ H => ∃ b, PySem.W.exmAny K cls h.cs = some b ∧ (b = true → ∀ a pn, H a = none → h.ts a pn (endsAt h.slot D) (setAt h.slot σ a) (upd H a (exv a cls d))) ∧ (b = false → wX K Wout D r cls d σ H)
inductive HdsX (X : Cx) : List ExceptHandler → List Hd → Prop
  | nil : HdsX X [] []
  | only {t : Expr} {cs : List Value} {b₀ : Stmt} {suite : List Stmt} {ts : Addr → List (Addr × Obj) → TS} {pos : Pos} {hds : List ExceptHandler} {l : List Hd} (T : TestE X t cs) (hsu : ∀ (a : Addr) (pn : List (Addr × Obj)), PSs (X.suite a pn) (b₀ :: suite) (ts a pn)) (r : HdsX X hds l) :
      HdsX X (.ExceptHandler (some t) none (b₀ :: suite) pos :: hds) (⟨cs, none, ts⟩ :: l)
  | as {t : Expr} {cs : List Value} {n : Str} {i : Nat} {b₀ : Stmt} {suite : List Stmt} {ts : Addr → List (Addr × Obj) → TS} {pos : Pos} {hds : List ExceptHandler} {l : List Hd} (T : TestE X t cs) (hi : X.N[i]? = some n) (hl : X.env.kindOf n = some .local)
      (hsu : ∀ (a : Addr) (pn : List (Addr × Obj)), PSs (X.suite a pn) (b₀ :: suite) (ts a pn)) (r : HdsX X hds l) : HdsX X (.ExceptHandler (some t) (some n) (b₀ :: suite) pos :: hds) (⟨cs, some i, ts⟩ :: l)

section
variable {X : Cx} {pins : List (Addr × Obj)} {σ : L2.St} {H : Hp} {s sI : Shared} {a : Addr} {cls : Value} {d : Option Addr}
/-- the suite's state: the caught exception is tracked -/
theorem inv_suiteX {oe : Obj} {vs : Array Value} (I : Inv X pins σ H sI) (J : Inv X pins σ H s) (nI : sI.heap.get? a = none) (na : H a = none) (he : s.heap.get? a = some oe) (hz : Zc cls d oe) (hd : oe.data = .fields vs) :
    Inv (X.suite a (X.pn ++ pins)) [] σ (upd H a (exv a cls d)) s := by
  have ne : ∀ {b : Addr} {o : Obj}, sI.heap.get? b = some o → b ≠ a := fun e z => by
    rw [z, nI] at e
    cases e
  have nu : ∀ {b : Addr} {o : HO}, H b = some o → upd H a (exv a cls d) b = some o := fun e => by
    rw [upd_ne (ne_of_none e na)]
    exact e
  refine ⟨J.ok.suite _ _, J.os, J.bare, ⟨J.base.keep, J.base.slot, fun b o e n hx => ?_, J.base.there, fun b xs e => nu (J.base.tups b xs e), fun b o u e => nu (J.base.frzs b o u e), fun b ps e => ?_⟩, J.loc, J.cell, ?_, fun x c e => ?_, fun p hp => ?_, J.hok.laidN (fun _ _ q => q) na (exv_ok he hz hd), J.len⟩
  · obtain ⟨o', q⟩ := I.base.there b o e hx
    rw [upd_ne (ne q)]
    exact J.base.free b o e n hx
  · obtain ⟨more, q⟩ := J.base.tbls b ps e
    exact ⟨more, nu q⟩
  · obtain ⟨m, ⟨o, es, ep, ho, _⟩, _⟩ := I.loc
    show upd H a (exv a cls d) X.env.locals = none
    rw [upd_ne (ne ho)]
    exact J.free
  · obtain ⟨v, o, ho, _⟩ := I.cell x c e
    rw [upd_ne (ne ho)]
    exact J.freeC x c e
  · have hp' : p ∈ X.pn ++ pins := by simpa using hp
    obtain ⟨e0, _⟩ := I.pin p hp'
    obtain ⟨e1, e2, e3⟩ := J.pin p hp'
    exact ⟨e1, by rw [upd_ne (ne e0)]; exact e2, e3⟩
theorem inv_unsuiteX (I : Inv (X.suite a (X.pn ++ pins)) [] σ H s) (ok : X.Ok) : Inv X pins σ H s :=
  ⟨ok, I.os, I.bare, I.base, I.loc, I.cell, I.free, I.freeC, fun p hp => I.pin p (List.mem_append_left _ hp), I.hok, I.len⟩
theorem fly_keep {B h h' : Heap} {l : List Env} {Z : Obj → Prop} (k : ∀ b o, h.get? b = some o → h'.get? b = some o) (f : HandSPX.FlyingZ B l a Z h) : HandSPX.FlyingZ B l a Z h' := by
  obtain ⟨f1, f2, f3, oe, vs, T, oT, ts, e1, e2, e3, e4, e5, e6, e7, e8, e9⟩ := f
  exact ⟨fun b o e => k _ _ (f1 b o e), f2, Heap.FunFrames.of_keeps (fun b o e _ => ⟨o, k b o e, rfl⟩) f3, oe, vs, T, oT, ts, k _ _ e1, e2, e3, e4, e5, e6, k _ _ e7, e8, e9⟩
/-- a clause's test -/
theorem name_run {x : Str} {c : Value} {p : Pos} {pn : List (Addr × Obj)} {Q : Value → Shared → Prop} {E : Value → Shared → Prop} (h : Names X x c) (S : Inv (X.suite a pn) [] σ H s) (q : Q c s) :
    wpAny (model X.prog X.w) (X.A.mark (some (.ref a))) (eval (.Name x p) X.env) Q E s := by
  obtain ⟨hg, nd, hm | ⟨hm, hv, hn⟩⟩ := h
  · exact ld_glob (X := X.suite a pn) S hg hm q nd
  · exact ld_blt (X := X.suite a pn) S hg hm hv q hn nd
theorem names_run {pn : List (Addr × Obj)} {p : Pos} {E : Value → Shared → Prop} (S : Inv (X.suite a pn) [] σ H s) : ∀ {es : List Expr} {cs : List Value}, NamesL X es cs → ∀ {Q : List Value → Shared → Prop}, Q cs s →
    wpAny (model X.prog X.w) (X.A.mark (some (.ref a))) (spliced (backTo p (starEach es X.env))) Q E s
  | _, _, .nil, _, q => wpAny_items_nil q
  | _, _, .cons h r, _, q => wpAny_items_cons (name_run h S (names_run S r q))
theorem test_run {t : Expr} {cs : List Value} {pn : List (Addr × Obj)} {b : Bool} {Q : Bool → Shared → Prop} {E : Value → Shared → Prop} (T : TestE X t cs) (S : Inv (X.suite a pn) [] σ H s)
    (LT : PySem.W.Looks (model X.prog X.w) s.heap (typeOf (.ref a)) cls) (he : PySem.W.exmAny X.K cls cs = some b) (q : ∀ h', (∀ c o, s.heap.get? c = some o → h'.get? c = some o) → Q b { s with heap := h' }) :
    wpAny (model X.prog X.w) (X.A.mark (some (.ref a))) (eval t X.env) (fun c s1 => wpAny (model X.prog X.w) (X.A.mark (some (.ref a))) (excMatches (.ref a) c) Q E s1) E s := by
  cases T with
  | one h =>
    obtain ⟨b1, d1, x1, y1, e⟩ := PySem.W.exmAny_cons he
    have z : some false = some d1 := y1
    cases z
    rw [Bool.or_false] at e
    subst e
    exact name_run h S ((PySem.W.exm_one S.kIn LT x1).here (q s.heap fun _ _ z => z))
  | tup h hl =>
    refine wpAny_Tuple (names_run S h ⟨by rw [sizeLine_eq]; omega, ?_⟩)
    have k : ∀ c o, s.heap.get? c = some o → (s.heap.push { cls := .type "tuple", data := .seq cs.toArray }).get? c = some o := fun _ _ z => Heap.get?_push_of_some _ z
    exact (PySem.G9X.exm_tupN (S.kIn.keeps k) (LT.keeps k) (Heap.get?_push_size s.heap rfl) he).here (q _ k)
end

theorem ps_tryX {X : Cx} {body : List Stmt} {h₀ : ExceptHandler} {hds : List ExceptHandler} {l : List Hd} {pos : Pos} {tb : WX → TS} {Wout : WX}
    (hs : X.stack = X.env :: X.outer) (hf : X.env.frame = some X.env.locals) (hN : X.N.Nodup) (tk : Takes X Wout)
    (hb : ∀ (W : WX) (pn : List (Addr × Obj)) (xe : Value → Shared → Prop), Takes (X.tr pn xe) W → PassesOwn (model X.prog X.w) X.A X.env xe → PSs (X.tr pn xe) body (tb W))
    (hh : HdsX X (h₀ :: hds) l) : PS X (.Try body (h₀ :: hds) [] [] pos) (fun D σ H => tb (wX X.K Wout D l) D σ H) := by
  refine ⟨fun pins s σ H D I h => ?_⟩
  have ok := I.ok
  have stk : X.A.frames = some (X.env :: X.outer) := by rw [ok.frames, hs]
  refine wpAny_Try_except (wpAny_mono ((hb (wX X.K Wout D l) (X.pn ++ pins) (fun e s₁ => wpAny (model X.prog X.w) X.A (noteFrame e X.env) (fun _ s₂ => wpAny (model X.prog X.w) X.A (setFlight e none) (fun _ s₃ =>
    wpAny (model X.prog X.w) X.A (handleBy e X.env (h₀ :: hds)) (SP X pins D) X.xe s₃) X.xe s₂) X.xe s₁) (fun u s' xx => ?_) PassesOwn.looking).run [] s σ H D (I.toTry _) h) (fun fl s1 hsp => ?_) fun e s1 he => he)
  · obtain ⟨a, B, sI, pins', σ1, H1, cls, d, rfl, J', nb, up, sky, na, os, ag, w⟩ := xx
    have J : Inv X pins σ1 H1 sI := J'.ofTry ok
    have sky' : Sky B (X.env :: X.outer) a (Zc cls d) X.env.locals s'.heap := by rw [← hs]; exact sky
    show wpAny (model X.prog X.w) X.A (noteFrame (.ref a) X.env) _ _ _
    refine Sky.land Zc.steady stk hf sky' fun h3 fl3 up3 => ?_
    obtain ⟨oe3, vs3, he3, hz3, hd3⟩ := fl3.there
    have notFr : a ∉ frs (X.env :: X.outer) := fun hm => by
      obtain ⟨_, o', e', hnf⟩ := fl3.2.2.1.mem hm
      rw [he3] at e'
      cases e'
      exact hnf _ hd3
    have nI : sI.heap.get? a = none := by
      cases e : sI.heap.get? a with
      | none => rfl
      | some o =>
        have z := nb a o e (by rw [hs]; exact notFr)
        rw [fl3.2.1] at z
        cases z
    -- the clauses, one after the other
    have go : ∀ {hds' : List ExceptHandler} {l' : List Hd}, HdsX X hds' l' → wX X.K Wout D l' cls d σ1 H1 → ∀ h4 : Heap, HandSPX.FlyingZ B (X.env :: X.outer) a (Zc cls d) h4 → sI.heap.UpToSlots h4 →
        wpAny (model X.prog X.w) X.A (handleBy (.ref a) X.env hds') (SP X pins D) X.xe { s' with heap := h4 } := by
      intro hds' l' hk
      have suite : ∀ {h5 : Heap}, HandSPX.FlyingZ B (X.env :: X.outer) a (Zc cls d) h5 → sI.heap.UpToSlots h5 → Inv (X.suite a (X.pn ++ pins)) [] σ1 (upd H1 a (exv a cls d)) { s' with heap := h5 } := fun fl u => by
        obtain ⟨oe, vs, e, z, dt⟩ := fl.there
        exact inv_suiteX J (J.landed nb fl.1 u os ag) nI na e z dt
      have look : ∀ {h5 : Heap}, HandSPX.FlyingZ B (X.env :: X.outer) a (Zc cls d) h5 → PySem.W.Looks (model X.prog X.w) h5 (typeOf (.ref a)) cls := fun fl A Q E s k q => by
        obtain ⟨oe, vs, e, z, dt⟩ := fl.there
        exact wpAny_typeOf_ref (k _ _ e) (by rw [z.1]; exact q)
      induction hk with
      | nil =>
        intro w h4 fl4 up4
        refine wpAny_handleBy_nil ?_
        obtain ⟨_, _, _, oe, vs, T, oT, ts', he, hz, hd, h1, hr⟩ := id fl4
        unfold PySem.passOn
        refine wpAny_bind (wpAny_field he hd h1 ?_)
        rw [if_neg (show ¬ ((Value.ref T == Value.none) = true) from by simp)]
        have fin : wpAny (model X.prog X.w) X.A (setFlight (.ref a) X.env.frame) (fun _ s4 => wpAny (model X.prog X.w) X.A (throw (.ref a) : Sem Flow) (SP X pins D) X.xe s4) X.xe { s' with heap := h4 } := by
          rw [hf]
          exact HandSPX.setFlight_upZ fl4 fun h5 hh5 up5 => wpAny_throw (tk _ _ ⟨a, B, sI, pins, σ1, H1, cls, d, rfl, J, nb, up4.trans up5, Or.inr (Or.inr (by rw [hs]; exact hh5)), na, os, ag, w⟩)
        first
          | exact wpAny_bind (wpAny_pure (wpAny_bind fin))
          | exact wpAny_bind fin
      | @only t cs b₀ suite' ts pos' hds2 l2 T hsu r ih =>
        intro w h4 fl4 up4
        obtain ⟨b, hb1, yes, no⟩ := w
        refine wpAny_handleBy_cons (codeAny_handlers_test ?_) (by intro q; cases q)
        refine test_run T (suite fl4 up4) (look fl4) hb1 fun h5 k5 => ?_
        have fl5 := fly_keep k5 fl4
        have up5 := up4.trans (Heap.UpToSlots.of_keeps k5)
        cases b with
        | true =>
          refine codeAny_handlers_suite ?_
          refine HandSPX.lands_againZ fl5 fun h6 fl6 up6 => ?_
          refine wpAny_mono ((hsu a (X.pn ++ pins)).run [] _ _ _ _ (suite fl6 (up5.trans up6)) (yes rfl a (X.pn ++ pins) na)) (fun f s7 hq => ?_) fun _ _ z => False.elim z
          cases f with
          | next => exact hq.elim fun σ6 z => z.elim fun H6 z => ⟨σ6, H6, inv_unsuiteX z.1 ok, z.2⟩
          | brk => exact hq.elim fun σ6 z => z.elim fun H6 z => ⟨σ6, H6, inv_unsuiteX z.1 ok, z.2⟩
          | cont => exact hq.elim fun σ6 z => z.elim fun H6 z => ⟨σ6, H6, inv_unsuiteX z.1 ok, z.2⟩
          | ret u => exact hq.elim fun v6 z => z.elim fun σ6 z => z.elim fun H6 z => ⟨v6, σ6, H6, inv_unsuiteX z.1 ok, z.2⟩
        | false =>
          show wpAny _ X.A (handleBy (.ref a) X.env hds2) _ _ _
          exact ih (no rfl) h5 fl5 up5
      | @as t cs n i b₀ suite' ts pos' hds2 l2 T hi hl hsu r ih =>
        intro w h4 fl4 up4
        obtain ⟨b, hb1, yes, no⟩ := w
        refine wpAny_handleBy_cons (codeAny_handlers_test ?_) (by intro q; cases q)
        refine test_run T (suite fl4 up4) (look fl4) hb1 fun h5 k5 => ?_
        have fl5 := fly_keep k5 fl4
        have up5 := up4.trans (Heap.UpToSlots.of_keeps k5)
        cases b with
        | true =>
          refine codeAny_handlers_suite_as ?_
          refine HandSPX.lands_againZ fl5 fun h6 fl6 up6 => ?_
          refine store_ok (X := X.suite a (X.pn ++ pins)) (v := .ref a) (suite fl6 (up5.trans up6)) hN hi (.inl hl) rfl (fun s7 S7 => ?_) (.inr hl)
          refine wpAny_mono ((hsu a (X.pn ++ pins)).run [] s7 _ _ _ S7 (yes rfl a (X.pn ++ pins) na)) (fun f s8 hq => ?_) fun _ _ z => False.elim z
          have end_ : ∀ {σ6 : L2.St} {H6 : Hp} {Q : Shared → Prop}, Inv (X.suite a (X.pn ++ pins)) [] σ6 H6 s8 → (∀ s9, Inv X pins (σ6.set i none) H6 s9 → Q s9) →
              wpAny (model X.prog X.w) X.A (do bindName X.env n .none; unbindBehindTheSuite X.env n pos') (fun _ s9 => Q s9) X.xe s8 := fun {σ6 H6 Q} S hq => gone_ok (inv_unsuiteX S ok) hN hi hl hq
          cases f with
          | next =>
            obtain ⟨σ6, H6, S6, q6⟩ := hq
            exact end_ S6 fun s9 J9 => ⟨_, _, J9, q6⟩
          | brk =>
            obtain ⟨σ6, H6, S6, q6⟩ := hq
            exact end_ S6 fun s9 J9 => ⟨_, _, J9, q6⟩
          | cont =>
            obtain ⟨σ6, H6, S6, q6⟩ := hq
            exact end_ S6 fun s9 J9 => ⟨_, _, J9, q6⟩
          | ret u =>
            obtain ⟨v6, σ6, H6, S6, r6, q6⟩ := hq
            exact end_ S6 fun s9 J9 => ⟨_, _, _, J9, r6, q6⟩
        | false =>
          show wpAny _ X.A (handleBy (.ref a) X.env hds2) _ _ _
          exact ih (no rfl) h5 fl5 up5
    exact go hh w h3 fl3 (up.trans up3)
  · cases fl with
    | next =>
      obtain ⟨σ', H', J', q⟩ := hsp
      exact wpAny_execs_nil ⟨σ', H', J'.ofTry ok, q⟩
    | brk =>
      obtain ⟨σ', H', J', q⟩ := hsp
      exact ⟨σ', H', J'.ofTry ok, q⟩
    | cont =>
      obtain ⟨σ', H', J', q⟩ := hsp
      exact ⟨σ', H', J'.ofTry ok, q⟩
    | ret u =>
      obtain ⟨v, σ', H', J', r, q⟩ := hsp
      exact ⟨v, σ', H', J'.ofTry ok, r, q⟩
end G9

namespace G9
open PySem PySem.Spec PyProof.Rows L2
/-! ### own exception classes of the text: their facts, asked at once -/
def same (a b : Option (Option Value)) : Bool := decide (a = b)
def excCB (K : PySem.W.Frag) (C : Addr) : Bool :=
  same (PySem.W.findIn K (.ref C) "__getattribute__") (some (some (.builtin "BaseException.__getattribute__"))) && (same (PySem.W.findIn K (.ref C) "__getattr__") (some none) && (decide (PySem.W.subIn K (.ref C) (.type "BaseException") = some true) && (PySem.W.hasDictIn K C &&
    (same (PySem.W.findIn K (.ref C) "__class__") (some (some (.builtin "object.__class__"))) && (same (PySem.W.specialIn K (.builtin "object.__class__") "__get__") (some (some (.builtin "getset_descriptor.__get__"))) &&
      (decide (PySem.W.takesIn K (.builtin "object.__class__") = some true) && (decide (PySem.W.mroIn K C (.type "object") = some true) && (decide (PySem.W.typeIn K (.ref C) = some (.type "type")) && PySem.W.keepIn K (.ref C)))))))))
theorem b2 {a b : Bool} (h : (a && b) = true) : a = true ∧ b = true := Bool.and_eq_true_iff.mp h
theorem same_ok {a b : Option (Option Value)} (h : same a b = true) : a = b := of_decide_eq_true h
theorem excCB_ok {K : PySem.W.Frag} {C : Addr} (h : excCB K C = true) : ExcC K C ∧ XfC K C ∧ PySem.W.typeIn K (.ref C) = some (.type "type") ∧ PySem.W.keepIn K (.ref C) = true := by
  obtain ⟨h1, h⟩ := b2 h
  obtain ⟨h2, h⟩ := b2 h
  obtain ⟨h3, h⟩ := b2 h
  obtain ⟨h4, h⟩ := b2 h
  obtain ⟨h5, h⟩ := b2 h
  obtain ⟨h6, h⟩ := b2 h
  obtain ⟨h7, h⟩ := b2 h
  obtain ⟨h8, h⟩ := b2 h
  obtain ⟨h9, h10⟩ := b2 h
  exact ⟨⟨same_ok h1, same_ok h2, of_decide_eq_true h3, h4, same_ok h5, same_ok h6, of_decide_eq_true h7, of_decide_eq_true h8⟩, ⟨same_ok h1, same_ok h2, of_decide_eq_true h3, h4⟩, of_decide_eq_true h9, h10⟩
/-- the class object, as such classes have it -/
def shapeB (K : PySem.W.Frag) (C : Addr) (newId : String) (tl : List Value) : Bool := match K.lookup C with
  | some ⟨.type c, _, .cls cd, sl⟩ => (match cd.mro, sl.toList with
    | .ref D :: bm, [_, _, _, _, some (.builtin n), _] => (c == "type") && ((D == C) && (refsThen tl bm && ((n == newId) && (cd.hasDict && !cd.hasDel))))
    | _, _ => false)
  | _ => false
theorem shapeB_ok {K : PySem.W.Frag} {C : Addr} {newId : String} {tl : List Value} (h : shapeB K C newId tl = true) :
    ∃ nm q N bs bm sn sub ab col dd k0 k1 k2 k3 k5, K.lookup C = some (excClassObj nm q C N bs bm true sn sub ab col dd k0 k1 k2 k3 k5 newId) ∧ refsThen tl bm = true := by
  unfold shapeB at h
  split at h
  · rename_i c dd cd sl ho
    split at h
    · rename_i D bm k0 k1 k2 k3 n k5 hm hs
      obtain ⟨h1, h⟩ := b2 h
      obtain ⟨h2, h⟩ := b2 h
      obtain ⟨h3, h⟩ := b2 h
      obtain ⟨h4, h⟩ := b2 h
      obtain ⟨h5, h6⟩ := b2 h
      obtain ⟨nm, bs, mro, ns, qn, hd, sn, sub, ab, col, del⟩ := cd
      dsimp only at hm h5 h6
      have e1 : c = "type" := beq_iff_eq.mp h1
      have e2 : D = C := beq_iff_eq.mp h2
      have e4 : n = newId := beq_iff_eq.mp h4
      subst e1 e2 e4 hm h5
      have e6 : del = false := by simpa using h6
      subst e6
      have es : sl = #[k0, k1, k2, k3, some (.builtin n), k5] := by
        obtain ⟨l⟩ := sl
        simp only at hs
        rw [hs]
      subst es
      exact ⟨nm, qn, ns, bs, bm, sn, sub, ab, col, dd, k0, k1, k2, k3, k5, ho, h3⟩
    · cases h
  · cases h

/-- an own exception class without own __init__ -/
structure Own0 (K : PySem.W.Frag) (mg : Str → Option Value) (x : Str) (C : Addr) (newId : String) (tl : List Value) : Prop where
  m : mg x = some (.ref C)
  q : PySem.W.excIn K C tl newId = true
  ec : ExcC K C
  xf : XfC K C
  ty : PySem.W.typeIn K (.ref C) = some (.type "type")
  kC : PySem.W.keepIn K (.ref C) = true
def own0B (K : PySem.W.Frag) (C : Addr) (newId : String) (tl : List Value) : Bool := PySem.W.excIn K C tl newId && excCB K C
theorem own0_mk {K : PySem.W.Frag} {mg : Str → Option Value} {x : Str} {C : Addr} {newId : String} {tl : List Value} (m : mg x = some (.ref C)) (h : own0B K C newId tl = true) : Own0 K mg x C newId tl := by
  obtain ⟨h1, h2⟩ := b2 h
  obtain ⟨a, b, c, d⟩ := excCB_ok h2
  exact ⟨m, h1, a, b, c, d⟩
/-- an own exception class with an own __init__ that says super().__init__(..); self.f = pn -/
structure Own1 (P : Program) (K : PySem.W.Frag) (mg : Str → Option Value) (x : Str) (C fI : Addr) (fd : FuncData) (B newId initId : String) (tl : List Value) (qual me pn f : Str) (st : Stmt) : Prop where
  m : mg x = some (.ref C)
  o : OexB B newId initId tl K C
  iC : PySem.W.findIn K (.ref C) "__init__" = some (some (.ref fI))
  tI : PySem.W.typeIn K (.ref fI) = some (.type "function")
  no : PySem.W.findIn K (.ref C) f = some none
  F : SupFn P K mg qual me st fI C fd
  b : Binds K fd [me, pn] []
  ec : ExcC K C
  xf : XfC K C
def own1B (K : PySem.W.Frag) (C fI : Addr) (B newId initId : String) (tl : List Value) (f : Str) : Bool :=
  shapeB K C newId tl && (same (PySem.W.findIn K (.ref C) "__setattr__") (some (some (.builtin "object.__setattr__"))) && (decide (PySem.W.subIn K (.ref C) (.type B) = some true) && (same (PySem.W.nsIn K cStatics "thirdparty.any") (some none) &&
    (same (PySem.W.ks_superIn K C C "__init__") (some (some (.builtin initId))) && (decide (PySem.W.typeIn K (.ref fI) = some (.type "function")) && (same (PySem.W.findIn K (.ref C) f) (some none) && excCB K C))))))
theorem own1_mk {P : Program} {K : PySem.W.Frag} {mg : Str → Option Value} {x : Str} {C fI : Addr} {fd : FuncData} {B newId initId : String} {tl : List Value} {qual me pn f : Str} {st : Stmt} (T : BaseB B newId initId tl) (m : mg x = some (.ref C))
    (iC : PySem.W.findIn K (.ref C) "__init__" = some (some (.ref fI))) (F : SupFn P K mg qual me st fI C fd) (b : Binds K fd [me, pn] []) (h : own1B K C fI B newId initId tl f = true) : Own1 P K mg x C fI fd B newId initId tl qual me pn f st := by
  obtain ⟨h1, h⟩ := b2 h
  obtain ⟨h2, h⟩ := b2 h
  obtain ⟨h3, h⟩ := b2 h
  obtain ⟨h4, h⟩ := b2 h
  obtain ⟨h5, h⟩ := b2 h
  obtain ⟨h6, h⟩ := b2 h
  obtain ⟨h7, h8⟩ := b2 h
  obtain ⟨e1, e2, e3, e4⟩ := excCB_ok h8
  exact ⟨m, ⟨T, shapeB_ok h1, same_ok h2, e1.hs, e3, e4, of_decide_eq_true h3, same_ok h4, same_ok h5⟩, iC, of_decide_eq_true h6, same_ok h7, F, b, e1, e2⟩
/-! ### isinstance, except: which class stands under which -/
def isTab (K : PySem.W.Frag) (cs : List Addr) (ds : List Value) : List (List (Option Bool)) := cs.map fun c => ds.map fun d => PySem.W.kitOne K (.ref c) d
theorem isTab_at {K : PySem.W.Frag} {cs : List Addr} {ds : List Value} {tab : List (List (Option Bool))} (h : isTab K cs ds = tab) {i j : Nat} {c : Addr} {d : Value} {r : List (Option Bool)} {b : Option Bool} (hc : cs[i]? = some c) (hd : ds[j]? = some d) (hr : tab[i]? = some r) (hb : r[j]? = some b) :
    PySem.W.kitOne K (.ref c) d = b := by
  subst h
  unfold isTab at hr
  rw [List.getElem?_map, hc] at hr
  cases hr
  rw [List.getElem?_map, hd] at hb
  exact Option.some.inj hb
def exTab (K : PySem.W.Frag) (cs : List Addr) : List (List (Option Bool)) := cs.map fun c => cs.map fun d => PySem.W.exmOne K (.ref c) (.ref d)
theorem exTab_at {K : PySem.W.Frag} {cs : List Addr} {tab : List (List (Option Bool))} (h : exTab K cs = tab) {i j : Nat} {c d : Addr} {r : List (Option Bool)} {b : Option Bool} (hc : cs[i]? = some c) (hd : cs[j]? = some d) (hr : tab[i]? = some r) (hb : r[j]? = some b) :
    PySem.W.exmOne K (.ref c) (.ref d) = b := by
  subst h
  unfold exTab at hr
  rw [List.getElem?_map, hc] at hr
  cases hr
  rw [List.getElem?_map, hd] at hb
  exact Option.some.inj hb
/-- a def in a class with super(): from the written part -/
theorem supFn_mk {P : Program} {K : PySem.W.Frag} {mg : Str → Option Value} {qual me : Str} {st : Stmt} {f C : Addr} {oc kV doc pm ct ccl cl : Value} {od an cdd cld : Option Addr} {osl ccs csl : Array (Option Value)} {cda cc : Addr} {vs : Array Value} {file : Str} {tf : Tok}
    (lk : K.lookup f = some ⟨oc, od, .func (PySem.W.fnX "__init__" qual (defArgs st) (defBody st) (defScope st) [("__class__", cc)] .none kV doc pm an (.ref cda) ct), osl⟩) (cd : PySem.W.codeIn K (.ref cda) qual = true) (hcode : K.lookup cda = some ⟨ccl, cdd, .fields vs, ccs⟩)
    (hvs : vs[2]? = some (.str file tf)) (hfile : ((P.main.file : Str) == file) = true) (hcell : K.lookup cc = some ⟨cl, cld, .cell (some (.ref C)), csl⟩) (top : (P.main.scope.names.lookup ("super" : Str)).isSome = false) (sup : mg "super" = none)
    (ar : ((defArgs st).posonlyargs ++ (defArgs st).args).head?.map (·.arg) = some me) :
    SupFn P K mg qual me st f C (PySem.W.fnX "__init__" qual (defArgs st) (defBody st) (defScope st) [("__class__", cc)] .none kV doc pm an (.ref cda) ct) :=
  ⟨⟨oc, kV, doc, pm, ct, ccl, cl, od, an, cdd, cld, osl, ccs, csl, cda, cc, vs, file, tf, rfl, lk, cd, hcode, hvs, hfile, hcell⟩, top, sup, ar⟩
end G9

namespace G9
open PySem PySem.Spec PyProof.Rows L2
section
variable {X : Cx} {CX : CXT} {k : Nat} {f : Addr} {fd : FuncData} {ps : List Str} {sp : Sp} {E : L2.St → XK} {x : Str} {p pos : Pos} {e : Expr} {es : List Expr} {t : TA}
/-- a call that may raise; what is wanted of the exception hangs on the slots -/
theorem pe_callGS (F : FnG X.prog X.w X.K X.mg X.base CX k f fd ps sp) (room : RoomG k X.A) (hg : Gl X x) (hm : X.mg x = some (.ref f)) (hk : PySem.W.keepIn X.K (.ref f) = true) (hb : Binds X.K fd ps []) (hx : ∀ σ, PassesAt CX X σ (E σ))
    (ha : PA X (e :: es) t) (nd : (x == ("__debug__" : Str)) = false := by decide) (he : starEach (e :: es) X.env = (false, eval e X.env) :: starEach es X.env := by rfl) (hp : (backTo pos (starEach es X.env)).any (·.1) = false := by rfl) :
    PE X (.Call (.Name x p) (e :: es) [] pos) (tCallS sp E t) := by
  constructor
  intro pins s σ H Q I want
  refine wpAny_Call_Name_kw (ld_glob I hg hm ?_ nd)
  refine PySem.W.callWith_K (h₀ := X.base) I.ok.mod.kin hk (thn (ha.run pos pins s σ H _ I want) fun us z ⟨vs, G, J, r, q⟩ => ⟨J.kIn, ?_⟩) he hp
  have len : us.length = ps.length := r.length.symm.trans (F.count _ _ _ _ q)
  have bd := hb z us J.kIn (by rw [List.append_nil]; exact len)
  rw [List.append_nil] at bd
  refine wpAny_call (codeAny_mono (F.goes X.A X.stack z G ⟨us, []⟩ us vs Q (E σ) room J.env0 bd r q) ?_)
  intro res z' hz
  match res, hz with
  | .error e, hz => exact hx σ pins G z e z' J hz
  | .ok (.ret u), hz => exact J.after hz
end
section
variable {P : Program} {w : World} {K : PySem.W.Frag} {mg : Str → Option Value} {base : Heap} {k : Nat} {f : Addr} {fd : FuncData} {ps N : List Str} {sp : Sp}
/-- a def that may raise -/
theorem okGX {x qual : Str} {st : Stmt} (F : Fun K x qual st f fd) (S : FnScope N ps (defScope st)) (count : ∀ vs H Q E, sp vs H Q E → vs.length = ps.length)
    (hb : ∀ (cdv : Value) (A : Around) (fs : List Env) (s : Shared) (H : Hp) (vs : List V) (Q : VK) (E : XK), RoomG k (A.deeper (envOfC qual (defScope st) s.heap.objs.size f cdv)) → sp vs H Q E →
      Takes (cxOf (L2.CX P w) P w K mg base N qual (defScope st) f cdv A fs s H E) (fun cls d _ H => E cls d H) →
      ∃ t, PSs (cxOf (L2.CX P w) P w K mg base N qual (defScope st) f cdv A fs s H E) (defBody st) t ∧ t { nx := fun _ G => Q .non G, rt := Q } (start N vs) H) : FnG P w K mg base (L2.CX P w) (k + 1) f fd ps sp := by
  obtain ⟨_, _, _, _, _, _, cdv, _, _, rfl, lk, cd⟩ := F.ex
  exact by_body lk cd S count fun A fs s H vs Q E room want => hb cdv A fs s H vs Q E room want (takes_of rfl rfl rfl rfl)
end
/-- the def of an own exception class, by its text -/
theorem init_of {P : Program} {w : World} {K : PySem.W.Frag} {mg : Str → Option Value} {base : Heap} {x : Str} {C fI : Addr} {fd : FuncData} {B newId initId : String} {tl : List Value} {qual me pn f : Str} {st : Stmt} {N : List Str} {ej : Expr} {p0 p1 p2 p7 p8 p9 p10 p11 p12 : Pos} {te : TE}
    (O : Own1 P K mg x C fI fd B newId initId tl qual me pn f st) (S : SupScope N [me, pn] me (defScope st))
    (hbody : defBody st = [.Expr (.Call (.Attribute (.Call (.Name "super" p0) [] [] p1) "__init__" p2) [ej] [] p7) p8, .Assign [.Attribute (.Name me p9) f p10] (.Name pn p11) p12])
    (dbg : (me == ("__debug__" : Str)) = false ∧ (me == ("__classdict__" : Str)) = false ∧ (pn == ("__debug__" : Str)) = false ∧ (pn == ("__classdict__" : Str)) = false)
    (hev : ∀ X : Cx, ∃ pl : Sem Bool, eval (.Call (.Attribute (.Call (.Name "super" p0) [] [] p1) "__init__" p2) [ej] [] p7) X.env = (do
      let ov ← attributeBase (.Call (.Name "super" p0) [] [] p1) "__init__" X.env (eval (.Call (.Name "super" p0) [] [] p1) X.env)
      standAt p2.atName
      let (f, first) ← holding [ov] (getMethod ov "__init__" pl)
      callWith p7 f first (backTo p7 (starEach [ej] X.env)) [])) (hst : ∀ X : Cx, starEach [ej] X.env = (false, eval ej X.env) :: starEach [] X.env)
    (hsw : ∀ X : Cx, swapsWith (.Name pn p11) (some (.Attribute (.Name me p9) f p10)) p12.line X.env = pure false) (k : Nat)
    (hj : ∀ X : Cx, X.K = K → RoomG k X.A → X.N[1]? = some pn → Vis X.env.scope pn → PE X ej te)
    (ht : ∀ (σ : L2.St) (H : Hp) (Q : VK) (v : V), σ[1]? = some (some v) → Shw K H v → (∀ y : Str, Q (.str y) H) → te σ H Q) :
    FnG P w K mg base CX0 (k + 1) fI fd [me, pn] (spInit C f K) := init_def O.o O.F S hbody O.no dbg hev hst hsw hj ht
end G9

namespace G9
open PySem PySem.Spec PyProof.Rows L2
/-! ### the text of such an error: some text that shows the value -/
def tSome (K : PySem.W.Frag) : TE := fun σ H Q => ∃ v, σ[1]? = some (some v) ∧ Shw K H v ∧ ∀ y : Str, Q (.str y) H
section
variable {X : Cx} {k : Nat} {m m2 pn : Str} {j j2 : Nat} {p3 p4 p5 p6 p7 : Pos}
theorem str_len {a b : Str} : (a ++ b).length = a.length + b.length := strLen_append a b
theorem pe_j2 (room : RoomG k X.A) (hN : X.N[1]? = some pn) (hv : Vis X.env.scope pn) (d1 : (pn == ("__debug__" : Str)) = false) (d2 : (pn == ("__classdict__" : Str)) = false) (hm : m.length ≤ 500) :
    PE X (.JoinedStr [.Constant (.str m) j p3, .FormattedValue (.Name pn p4) 114 none p5] p6) (tSome X.K) := by
  have h := pe_joined (pos := p6) (PJ.cons (pe_str (X := X) (x := m) (j := j) (pos := p3)) (PJ.cons (pe_shw (pos := p5) room (pe_var (pos := p4) hN hv d1 d2)) PJ.nil))
  refine ⟨fun pins s σ H Q I q => h.run pins s σ H Q I ?_⟩
  obtain ⟨v, e, sh, q⟩ := q
  have e0 : (Str.empty ++ m).length = m.length := by rw [str_len]; exact Nat.zero_add _
  refine ⟨m, rfl, by rw [e0, sizeLine_eq]; omega, v, e, sh, fun y hy => ⟨y, rfl, ?_, q _⟩⟩
  rw [str_len, e0]
  omega
theorem pe_j3 (room : RoomG k X.A) (hN : X.N[1]? = some pn) (hv : Vis X.env.scope pn) (d1 : (pn == ("__debug__" : Str)) = false) (d2 : (pn == ("__classdict__" : Str)) = false) (hm : m.length ≤ 400) (hm2 : m2.length ≤ 400) :
    PE X (.JoinedStr [.Constant (.str m) j p3, .FormattedValue (.Name pn p4) 114 none p5, .Constant (.str m2) j2 p7] p6) (tSome X.K) := by
  have h := pe_joined (pos := p6) (PJ.cons (pe_str (X := X) (x := m) (j := j) (pos := p3)) (PJ.cons (pe_shw (pos := p5) room (pe_var (pos := p4) hN hv d1 d2)) (PJ.cons (pe_str (X := X) (x := m2) (j := j2) (pos := p7)) PJ.nil)))
  refine ⟨fun pins s σ H Q I q => h.run pins s σ H Q I ?_⟩
  obtain ⟨v, e, sh, q⟩ := q
  have e0 : (Str.empty ++ m).length = m.length := by rw [str_len]; exact Nat.zero_add _
  refine ⟨m, rfl, by rw [e0, sizeLine_eq]; omega, v, e, sh, fun y hy => ⟨y, rfl, ?_, m2, rfl, ?_, q _⟩⟩
  · rw [str_len, e0]
    omega
  · rw [str_len, str_len, e0]
    omega
end
theorem sql_S {K : PySem.W.Frag} {H G : Hp} {a : Addr} {xs : List V} (s : Same H G) (h : SqL K H a xs) : SqL K G a xs := s.seq h
mutual
theorem dp_same {K : PySem.W.Frag} {H G : Hp} (s : Same H G) : ∀ {v : V} {d : PyData}, Dp K H v d → Dp K G v d
  | _, _, .non => .non
  | _, _, .bl b => .bl b
  | _, _, .int i => .int i
  | _, _, .str x => .str x
  | _, _, .lst h r => .lst (s.seq h) (dps_same s r)
  | _, _, .tup h r => .tup (sqt_same s h) (dps_same s r)
theorem dps_same {K : PySem.W.Frag} {H G : Hp} (s : Same H G) : ∀ {vs : List V} {ds : List PyData}, DpAll K H vs ds → DpAll K G vs ds
  | _, _, .nil => .nil
  | _, _, .cons h r => .cons (dp_same s h) (dps_same s r)
end
theorem s_callS {sp : Sp} {E : L2.St → XK} {t : TA} {σ : L2.St} {H : Hp} {Q : VK} (q : t σ H fun vs H1 => sp vs H1 Q (E σ)) : tCallS sp E t σ H Q := q
/-- what can be shown, whatever is new -/
def ShwU (K : PySem.W.Frag) (H : Hp) (v : V) : Prop := ∀ a o, H a = none → Shw K (upd H a o) v
theorem shw_same {K : PySem.W.Frag} {H G : Hp} {v : V} (s : Same H G) (h : Shw K H v) : Shw K G v := by
  rcases h with h | h | h | h | ⟨p, d, e, hd, r⟩
  · exact Or.inl h
  · exact Or.inr (Or.inl h)
  · exact Or.inr (Or.inr (Or.inl h))
  · exact Or.inr (Or.inr (Or.inr (Or.inl h)))
  · exact Or.inr (Or.inr (Or.inr (Or.inr ⟨p, d, e, dp_same s hd, r⟩)))
theorem shw_u {K : PySem.W.Frag} {H : Hp} {v : V} (h : Shw K H v) : ShwU K H v := fun a o n => shw_same (Same.upd0 n) h
end G9

namespace G9
open PySem PySem.Spec PyProof.Rows L2
theorem XAt.same {H G : Hp} {a C : Addr} {od : Option Addr} {fs : List (Str × V)} (s : Same H G) (x : XAt H a C od fs) : XAt G a C od fs := by
  obtain ⟨⟨φ, e, k⟩, y⟩ := x
  refine ⟨⟨φ, s _ _ e, k⟩, ?_⟩
  cases od with
  | none => exact y
  | some d =>
    rcases y with e | e
    · exact Or.inl (s _ _ e)
    · exact Or.inr (s _ _ e)
section
variable {K : PySem.W.Frag} {H : Hp} {a C D : Addr} {od : Option Addr} {fs : List (Str × V)} {b : Bool} {Q : VK} {n : String}
theorem l_isX (T : ExcC K C) (x : XAt H a C od fs) (k : PySem.W.kitOne K (.ref C) (.ref D) = some b) (q : Q (.bl b) H) : rIsX K [.ref a, .ref D] H Q := ⟨a, C, od, fs, .ref D, .ref D, b, rfl, T, x, fun u r => r, k, q⟩
theorem l_isXt (T : ExcC K C) (x : XAt H a C od fs) (k : PySem.W.kitOne K (.ref C) (.type n) = some b) (q : Q (.bl b) H) : rIsX K [.ref a, .ty n] H Q := ⟨a, C, od, fs, .ty n, .type n, b, rfl, T, x, fun u r => r, k, q⟩
end
theorem isTab_of {K : PySem.W.Frag} {cs : List Addr} {ds : List Value} {f : Nat → Nat → Bool} {n m : Nat} (h : isTab K cs ds = (List.range n).map fun i => (List.range m).map fun j => some (f i j)) {i j : Nat} {c : Addr} {d : Value} (hi : i < n) (hj : j < m) (hc : cs[i]? = some c) (hd : ds[j]? = some d) :
    PySem.W.kitOne K (.ref c) d = some (f i j) :=
  isTab_at (r := (List.range m).map fun j => some (f i j)) h hc hd (by rw [List.getElem?_map, List.getElem?_range hi]; rfl) (by rw [List.getElem?_map, List.getElem?_range hj]; rfl)
theorem tk0 {X : Cx} : Takes X (fun _ _ _ _ => False) := takes_none5
theorem exTab_of {K : PySem.W.Frag} {cs : List Addr} {f : Nat → Nat → Bool} {n : Nat} (h : exTab K cs = (List.range n).map fun i => (List.range n).map fun j => some (f i j)) {i j : Nat} {c d : Addr} (hi : i < n) (hj : j < n) (hc : cs[i]? = some c) (hd : cs[j]? = some d) :
    PySem.W.exmOne K (.ref c) (.ref d) = some (f i j) :=
  exTab_at (r := (List.range n).map fun j => some (f i j)) h hc hd (by rw [List.getElem?_map, List.getElem?_range hi]; rfl) (by rw [List.getElem?_map, List.getElem?_range hj]; rfl)
end G9

namespace PySem
namespace SeqAt
/-- l.index(x, i0) -/
theorem index3At (l : Addr) (items : Array Value) (n : Nat) (dd : Option Addr) (sl : Array (Option Value)) (x : Value) (e : Value → Bool) (i0 j : Nat) (t : Tok) (hj : j < items.size) (hi : i0 ≤ j) (small : (j : Int) < 2 ^ 63 - 1)
    (hit : e items[j] = true) (hno : ∀ m (hm : m < items.size), i0 ≤ m → m < j → e items[m] = false) :
    Meets (Builtin.«list.index» ⟨[.ref l, x, .int (i0 : Int) t], []⟩)
      (fun A R s => s.heap.get? l = some { cls := .type "list", dict := dd, data := .seq items n, slots := sl } ∧ (∀ y, y ∈ items → EqAt A.in1 s y x (e y)) ∧ R (.ok (.ret (.int j s.toks))) { s with toks := s.toks + 1 }) := by
  intro prog w A R s h
  obtain ⟨hp, g, d, tk, os⟩ := s
  obtain ⟨hl, he, h⟩ := h
  have f1 := F.slot_int_index.lookup
  wp_walk using wpAny_loadPart' hl
  have a1 : ((fun i : Int => if i < 0 then max 0 (i + (items.size : Int)) else i) ((some (i0 : Int) : Option Int).getD 0)) = ((i0 : Nat) : Int) := by
    show (if (i0 : Int) < 0 then _ else (i0 : Int)) = (i0 : Int)
    rw [if_neg (by omega)]
  have a2 : ((fun i : Int => if i < 0 then max 0 (i + (items.size : Int)) else i) ((none : Option Int).getD (2 ^ 63 - 1))) = 2 ^ 63 - 1 := by simp
  all_goals
    rw [a1, a2]
    exact ⟨plainId_quiet MeetsSeq.plain_index_loop _, codeAny_builtin MeetsSeq.entry_index_loop (by
      rw [Around.under_plainId MeetsSeq.plain_index_loop _]
      exact index_loopAt l items n dd sl x e (2 ^ 63 - 1) j hj small hit _ i0 rfl hi hno prog w A R _ ⟨hl, he, h⟩)⟩
end SeqAt
end PySem
namespace G9
open PySem PySem.Spec PyProof.Rows L2
section
variable {X : Cx}
/-- l.index(y, i0), flat items -/
def rIndex3 (K : PySem.W.Frag) : V → List V → Hp → VK → Prop := fun x xs H Q => ∃ (a : Addr) (ys : List V) (y : V) (i0 j : Nat) (z : V), x = V.ref a ∧ xs = [y, .int (i0 : Int)] ∧ SqL K H a ys ∧ flatV y = true ∧ ys.all flatV = true ∧ i0 ≤ j ∧ ys[j]? = some z ∧ eqV z y = true ∧
  (∀ (m : Nat) (z' : V), i0 ≤ m → m < j → ys[m]? = some z' → eqV z' y = false) ∧ Q (.int (j : Nat)) H
theorem mt_index3 : MtR X "list.index" (rIndex3 X.K) := by
  intro pins s σ H x xs v us Q I rx rxs h
  obtain ⟨a, ys, y, i0, j, z, rfl, rfl, hs, fy, fys, hi, hz, hzj, hno, q⟩ := h
  cases rx
  cases rxs with
  | @cons _ uy _ _ ry rt =>
    cases rt with
    | @cons _ ui _ _ ri rn =>
      cases rn
      obtain ⟨ti, rfl⟩ := ri
      obtain ⟨its, rv, ⟨⟨cls, dd, data, sl⟩, n, ho, hc, hdn, hd⟩, hlen⟩ := I.list hs
      simp only at hc hd
      subst hc hd
      obtain ⟨u, hu, ru⟩ := rv.get hz
      obtain ⟨hjl, hje⟩ := List.getElem?_eq_some_iff.mp hu
      have hvl := rv.length
      have hj : j < its.toArray.size := by simpa using hjl
      have hsl := sizeLine_eq
      refine call_meets PySem.F.slot_list_index ⟨_, ho, rfl⟩ PySem.F.entry_list_index (PySem.F.args_list_index_3 _ _ _)
        (SeqAt.index3At a its.toArray n dd sl uy (eqU y) i0 j ti hj hi (by omega) ?_ ?_) ⟨ho, fun u' hu' => mem_eqAt ry fy rv fys u' (by simpa using hu'), ?_⟩
      · have e1 : its.toArray[j] = u := by simpa using hje
        rw [e1, eqU_of ru (flat_at fys hz)]
        exact hzj
      · intro m hm him hmj
        have hml : m < its.length := by simpa using hm
        have hmy : m < ys.length := by omega
        have hy' : ys[m]? = some ys[m] := List.getElem?_eq_getElem hmy
        obtain ⟨u2, hu2, ru2⟩ := rv.get hy'
        obtain ⟨_, hme⟩ := List.getElem?_eq_some_iff.mp hu2
        have e1 : its.toArray[m] = u2 := by simpa using hme
        rw [e1, eqU_of ru2 (flat_at fys hy')]
        exact hno m _ him hmj hy'
      · exact ⟨.int (j : Nat), H, I.tok _, ⟨_, rfl⟩, q⟩
end
end G9

namespace G9
open PySem PySem.Spec PyProof.Rows L2
section
variable {K : PySem.W.Frag} {σ : L2.St} {H : Hp} {Q : VK} {tl : TI} {tar : TA} {t : TT} {te : TE} {j : Nat} {g : TG} {tbd : TS} {D : Ends}
/-! ### comprehensions over range, loops over enumerate -/
def RngLc (g : TG) (tt : TT) (te : TE) (vs : List Nat) (σ : L2.St) (Q : VK) (us : List V) (H1 : Hp) : Prop := ∃ n : Int, us = [.int n] ∧ -(2 ^ 62) ≤ n ∧ n < 2 ^ 62 ∧ WLc (Itr 0 n.toNat) g tt te vs σ Q H1
theorem s_lcR (q : tar σ H fun us H1 => RngLc g t te [j] σ Q us H1) : tLc (iRng1 tar) g t te [j] σ H Q := q
def intsTo (n : Nat) : List V := (List.range n).map fun i => V.int (i : Nat)
theorem walk_ints {n : Nat} : Walk (Itr 0 n) (intsTo n).length (fun _ => True) (YAt (intsTo n)) := by
  have e : (intsTo n).length = n := by unfold intsTo; rw [List.length_map, List.length_range]
  rw [e]
  refine (walk_range (lo := 0) (n := n)).mono (fun _ _ => trivial) fun i H x H' hi _ y => ?_
  obtain ⟨rfl, rfl⟩ := y
  refine ⟨rfl, ?_⟩
  unfold intsTo
  rw [List.getElem?_map, List.getElem?_range hi]
  show some (V.int (i : Nat)) = some (V.int (0 + (i : Nat)))
  rw [Int.zero_add]
theorem l_lcR {n : Nat} (hn : n ≤ 100000) (keep : V → Bool) (f : V → V) (test : ∀ x ∈ intsTo n, ∀ G, Same H G → ToB t ((wipe σ [j]).set j (some x)) G (keep x))
    (val : ∀ x ∈ intsTo n, keep x = true → ∀ G, Same H G → ToV te ((wipe σ [j]).set j (some x)) G (f x)) (fin : ∀ D G, H D = none → Same H G → G D = some (.lst (((intsTo n).filter keep).map f)) → Q (.ref D) G) :
    RngLc (gName j) t te [j] σ Q [.int (n : Int)] H :=
  ⟨n, rfl, by omega, by omega, wlc_of walk_ints (fun _ _ => trivial) keep f (by unfold intsTo; rw [List.length_map, List.length_range]; exact hn) test val fin⟩
def EFor (K : PySem.W.Frag) (g : TG) (tb : TS) (D : Ends) (σ : L2.St) (us : List V) (H1 : Hp) : Prop := ∃ (a : Addr) (xs : List V), us = [.ref a] ∧ SqL K H1 a xs ∧ WFor (Ite K a) g tb D σ H1
theorem s_forE (q : tar σ H fun us H1 => EFor K g tbd D σ us H1) : tFor (iEnum K tar) g tbd D σ H := q
theorem l_forE {p : Addr} {xs : List V} (h : SqL K H p xs) (Pv : Nat → L2.St → Hp → Prop) (a : Pv 0 σ H) (stay : ∀ i σ H, i ≤ xs.length → Pv i σ H → SqL K H p xs)
    (turn : ∀ (i : Nat) x T σ H, xs[i]? = some x → Pv i σ H → H T = none → g (.ref T) σ (upd H T (.tup [.int (i : Nat), x])) fun σ2 H2 => tbd { D with nx := Pv (i + 1), ct := Pv (i + 1), bk := D.nx } σ2 H2) (done : ∀ σ H, Pv xs.length σ H → D.nx σ H) :
    EFor K g tbd D σ [.ref p] H :=
  ⟨p, xs, rfl, h, for_it walk_enum Pv a stay (fun i x σ H H' hi q y => by
    obtain ⟨T, u, z, rfl, n, rfl, e1, e2⟩ := y
    cases e1
    exact turn i z T σ H e2 q n) done⟩
end
end G9

namespace G9
open PySem PySem.Spec PyProof.Rows L2
/-! ### data of moderate size: what ==, repr and !r want of it -/
/-- its text has at most n signs, it is at most m deep -/
structure Sml (n m : Nat) (d : PyData) : Prop where
  sh : d.showable = true
  nd : d.hasDict = false
  dp : d.depth ≤ m
  ln : d.shown.length ≤ n
  lay : d.canLay0 = true
theorem Sml.up {n m n' m' : Nat} {d : PyData} (h : Sml n m d) (a : n ≤ n') (b : m ≤ m') : Sml n' m' d := ⟨h.sh, h.nd, Nat.le_trans h.dp b, Nat.le_trans h.ln a, h.lay⟩
theorem Sml.shaped {n m : Nat} {d : PyData} (h : Sml n m d) (a : m ≤ 64) : SeqAt.shaped d = true := by
  unfold SeqAt.shaped
  rw [h.lay, decide_eq_true (Nat.le_trans h.dp a)]
  rfl
theorem sml_non : Sml 4 0 .none := ⟨rfl, rfl, Nat.le_refl _, by decide +kernel, rfl⟩
theorem sml_bl (b : Bool) : Sml 5 0 (.bool b) := ⟨rfl, rfl, Nat.le_refl _, by cases b <;> decide +kernel, rfl⟩
theorem sml_int {i : Int} (h : i.natAbs.log2 < 1920) : Sml 1921 0 (.int i) := ⟨decide_eq_true h, rfl, Nat.le_refl _, by
  have e := int_text_length_le (k := 1920) (by decide) h
  show (Str.ofString (toString i)).length ≤ 1921
  rw [PySem.ofString_length]
  omega, rfl⟩
theorem sml_str {x : Str} {k : Nat} (hl : x.length ≤ k) (hc : ∀ c ∈ x.cps.toList, c < 128) : Sml (10 * k + 2) 0 (.str x) := ⟨rfl, rfl, Nat.le_refl _, by
  have e := StrLaws.reprText_len x fun c h => Nat.lt_trans (hc c h) (by decide)
  show (reprText x).length ≤ _
  omega, by
  show PyData.strOk x = true
  unfold PyData.strOk
  rw [← Array.all_toList, List.all_eq_true]
  intro c h
  exact decide_eq_true (Nat.lt_trans (hc c h) (by decide))⟩
theorem piled_le {ts : List Str} {n : Nat} (h : ∀ t ∈ ts, t.length ≤ n) : piled ts ≤ ts.length * (n + 2) := by
  induction ts with
  | nil => exact Nat.zero_le _
  | cons t ts ih =>
    rw [piled_cons, List.length_cons, Nat.succ_mul]
    have h1 := h t List.mem_cons_self
    have h2 := ih fun u hu => h u (List.mem_cons_of_mem _ hu)
    omega
theorem shownAll_map : ∀ ds : List PyData, PyData.shownAll ds = ds.map PyData.shown
  | [] => rfl
  | d :: ds => by
    rw [PyData.shownAll, shownAll_map ds]
    rfl
theorem all_small {n m : Nat} {ds : List PyData} (h : ∀ d ∈ ds, Sml n m d) : PyData.showableAll ds = true ∧ PyData.hasDictAll ds = false ∧ PyData.depthAll ds ≤ m ∧ PyData.canLayAll0 ds = true ∧ piled (PyData.shownAll ds) ≤ ds.length * (n + 2) := by
  refine ⟨?_, ?_, ?_, ?_, ?_⟩
  · induction ds with
    | nil => rfl
    | cons d ds ih => rw [PyData.showableAll, (h d List.mem_cons_self).sh, ih fun x hx => h x (List.mem_cons_of_mem _ hx)]; rfl
  · induction ds with
    | nil => rfl
    | cons d ds ih => rw [PyData.hasDictAll, (h d List.mem_cons_self).nd, ih fun x hx => h x (List.mem_cons_of_mem _ hx)]; rfl
  · induction ds with
    | nil => exact Nat.zero_le _
    | cons d ds ih =>
      rw [PyData.depthAll]
      have h1 := (h d List.mem_cons_self).dp
      have h2 := ih fun x hx => h x (List.mem_cons_of_mem _ hx)
      omega
  · induction ds with
    | nil => rfl
    | cons d ds ih => rw [PyData.canLayAll0, (h d List.mem_cons_self).lay, ih fun x hx => h x (List.mem_cons_of_mem _ hx)]; rfl
  · rw [shownAll_map]
    refine Nat.le_trans (piled_le (n := n) fun t ht => ?_) (by rw [List.length_map]; exact Nat.le_refl _)
    obtain ⟨d, hd, rfl⟩ := List.mem_map.mp ht
    exact (h d hd).ln
theorem textFrom_le : ∀ (ts : List Str) (k : Nat) (acc : Str), (textFrom k acc ts).length ≤ acc.length + piled ts
  | [], k, acc => by
    show acc.length ≤ _
    omega
  | t :: ts, k, acc => by
    rw [piled_cons]
    have e := textFrom_le ts (k + 1) (acc ++ ((if k > 0 then ", " else "" : String) : Str) ++ t)
    rw [strLen_append, strLen_append] at e
    have e1 : ((if k > 0 then ", " else "" : String) : Str).length ≤ 2 := by split <;> decide +kernel
    show (textFrom (k + 1) (acc ++ ((if k > 0 then ", " else "" : String) : Str) ++ t) ts).length ≤ _
    omega
theorem sml_list {n m : Nat} {ds : List PyData} (h : ∀ d ∈ ds, Sml n m d) : Sml (2 + ds.length * (n + 2)) (m + 1) (.list ds) := by
  obtain ⟨a, b, c, d, e⟩ := all_small h
  refine ⟨a, b, Nat.succ_le_succ c, ?_, d⟩
  show (listText (PyData.shownAll ds)).length ≤ _
  unfold listText
  rw [strLen_append]
  have := textFrom_le (PyData.shownAll ds) 0 "["
  have e1 : ((("[" : String) : Str)).length = 1 := rfl
  have e2 : ((("]" : String) : Str)).length = 1 := rfl
  omega
theorem sml_tup {n m : Nat} {ds : List PyData} (h : ∀ d ∈ ds, Sml n m d) : Sml (2 + ds.length * (n + 2)) (m + 1) (.tuple ds) := by
  obtain ⟨a, b, c, d, e⟩ := all_small h
  refine ⟨a, b, Nat.succ_le_succ c, ?_, d⟩
  show (tupleText (PyData.shownAll ds)).length ≤ _
  have := fmt_text (PyData.shownAll ds)
  omega
theorem sml_shw {K : PySem.W.Frag} {H : Hp} {v : V} {d : PyData} {n m : Nat} (h : Dp K H v d) (s : Sml n m d) (hm : m ≤ 60) (hn : n + 1000 ≤ sizeLine) : Shw K H v := by
  cases h with
  | non => exact Or.inr (Or.inr (Or.inl rfl))
  | bl b => exact Or.inr (Or.inr (Or.inr (Or.inl ⟨b, rfl⟩)))
  | int i => exact Or.inl ⟨i, rfl, of_decide_eq_true s.sh⟩
  | str x => exact Or.inr (Or.inl ⟨x, rfl, by have := s.ln; show (PyData.shown (.str x)).length + 1000 ≤ _; omega⟩)
  | lst a b => exact Or.inr (Or.inr (Or.inr (Or.inr ⟨_, _, rfl, .lst a b, s.sh, s.nd, Nat.le_trans s.dp hm, by have := s.ln; omega⟩)))
  | tup a b => exact Or.inr (Or.inr (Or.inr (Or.inr ⟨_, _, rfl, .tup a b, s.sh, s.nd, Nat.le_trans s.dp hm, by have := s.ln; omega⟩)))
/-! ### exceptions made, by what is told of them -/
def RMk0 (C : Addr) (H : Hp) (Q : VK) : Prop := ∀ a, H a = none → Q (.ref a) (upd H a (exo a C none))
def tMk0 (C : Addr) (te : TE) : TE := fun σ H Q => te σ H fun _ H1 => RMk0 C H1 Q
def RMkI (K : PySem.W.Frag) (C : Addr) (f : Str) (v : V) (H : Hp) (Q : VK) : Prop := ∀ a, H a = none → Shw K (upd H a (exo a C none)) v ∧ ∀ dx, H dx = none → dx ≠ a → Q (.ref a) (upd (upd H dx (exd dx [(f, v)])) a (exo a C (some dx)))
def tMkI (K : PySem.W.Frag) (C : Addr) (f : Str) (te : TE) : TE := fun σ H Q => te σ H fun v H1 => RMkI K C f v H1 Q
section
variable {X : Cx} {B newId initId : String} {tl : List Value} {C fI : Addr} {k : Nat} {fd : FuncData} {me pn f x : Str} {e : Expr} {te : TE} {p pos : Pos}
theorem pe_mkI (T : OexB B newId initId tl X.K C) (iC : PySem.W.findIn X.K (.ref C) "__init__" = some (some (.ref fI))) (tI : PySem.W.typeIn X.K (.ref fI) = some (.type "function"))
    (F : FnG X.prog X.w X.K X.mg X.base CX0 k fI fd [me, pn] (spInit C f X.K)) (room : RoomG (k + 1) X.A) (hb : Binds X.K fd [me, pn] []) (hg : Gl X x) (hm : X.mg x = some (.ref C)) (he : PE X e te)
    (hs : starEach [e] X.env = (false, eval e X.env) :: starEach [] X.env := by rfl) (hdb : (x == ("__debug__" : Str)) = false := by decide) : PE X (.Call (.Name x p) [e] [] pos) (tMkI X.K C f te) := pe_makeI T iC tI F room hb hg hm he hs hdb
theorem pe_mk0 {bmB : List Value} {iI : String} (F : ExcBaseFacts B newId iI bmB) (q : PySem.W.excIn X.K C bmB newId = true) (gC : X.mg x = some (.ref C)) (kC : PySem.W.keepIn X.K (.ref C) = true) (hg : Gl X x) (he : PE X e te)
    (hs : starEach [e] X.env = (false, eval e X.env) :: starEach [] X.env := by rfl) (hdb : (x == ("__debug__" : Str)) = false := by decide) : PE X (.Call (.Name x p) [e] [] pos) (tMk0 C te) := pe_make0 F q gC kC hg he hs hdb
end
section
variable {K : PySem.W.Frag} {H : Hp} {C : Addr} {f : Str} {v : V} {Q : VK} {σ : L2.St} {te : TE}
theorem s_mk0 (q : te σ H fun _ H1 => RMk0 C H1 Q) : tMk0 C te σ H Q := q
theorem s_mkI (q : te σ H fun v H1 => RMkI K C f v H1 Q) : tMkI K C f te σ H Q := q
theorem l_mk0 (k : ∀ a J, H a = none → Same H J → XAt J a C none [] → Q (.ref a) J) : RMk0 C H Q :=
  fun a n => k a _ n (Same.upd0 n) (xat_exo0 upd_same)
theorem l_mkI (sh : Shw K H v) (k : ∀ a d J, H a = none → Same H J → XAt J a C (some d) [(f, v)] → Q (.ref a) J) : RMkI K C f v H Q := fun a n =>
  ⟨shw_u sh a _ n, fun dx nd ne => k a dx _ n ((Same.upd0 nd).trans (Same.upd0 (by rw [upd_ne (Ne.symm ne)]; exact n))) (xat_exo upd_same (by rw [upd_ne ne, upd_same]))⟩
end
end G9

namespace K00
open PySem PySem.Spec PyProof.Rows L2 G9
local macro_rules | `(tactic| walk_at "s1") => `(tactic| first
  | ((with_reducible refine' s_var ?hv ?_); (case hv => rfl))
  | (with_reducible refine' s_seq ?_) | (with_reducible refine' s_asg ?_) | (with_reducible refine' s_name ?_) | (with_reducible refine' s_if ?_) | (with_reducible refine' s_ret ?_)
  | (with_reducible refine' s_op ?_) | (with_reducible refine' s_c ?_) | (with_reducible refine' s_cb ?_) | (with_reducible refine' s_cons ?_) | (with_reducible refine' s_nil ?_) | (with_reducible refine' s_consts ?_)
  | (with_reducible refine' s_call ?_) | (with_reducible refine' s_lst ?_) | (with_reducible refine' s_tup ?_) | (with_reducible refine' s_un ?_) | (with_reducible refine' s_next ?_) | (with_reducible refine' s_drop ?_)
  | (with_reducible refine' s_ifE ?_) | (with_reducible refine' s_tb ?_) | (with_reducible refine' s_test ?_) | (with_reducible refine' s_yes ?_) | (with_reducible refine' s_not ?_) | (with_reducible refine' s_and ?_) | (with_reducible refine' s_or ?_)
  | (with_reducible refine' s_andV ?_) | (with_reducible refine' s_orV ?_) | (with_reducible refine' s_notV ?_) | (with_reducible refine' s_chain ?_)
  | (with_reducible refine' s_par ?_) | (with_reducible refine' l_par ?_) | (with_reducible refine' s_par3 ?_) | (with_reducible refine' l_par3 ?_)
  | (with_reducible refine' s_sub ?_) | (with_reducible refine' s_gnil ?_) | (with_reducible refine' s_gcons ?_) | (with_reducible refine' s_slice ?_) | (with_reducible refine' s_nopart ?_) | (with_reducible refine' s_part ?_) | (with_reducible refine' l_part ?_)
  | (with_reducible refine' s_forR ?_) | (with_reducible refine' s_forT ?_) | (with_reducible refine' s_lcS ?_) | (with_reducible refine' s_lcL ?_) | (with_reducible refine' s_lcT ?_)
  | (with_reducible refine' l_inS ?_) | (with_reducible refine' l_ninS ?_)
  | ((with_reducible refine' l_slS ?hc ?_); (case hc => first | with_reducible assumption | decide +kernel | omega))
  | (with_reducible refine' l_bl ?_) | (with_reducible refine' l_I0 ?_) | (with_reducible refine' l_U ?_)
  | ((with_reducible refine' l_I ?hc ?_); (case hc => first | decide +kernel | omega | (left; constructor <;> omega) | (right; constructor <;> omega) | (constructor <;> omega)))
  | ((with_reducible refine' l_eq ?hc ?_); (case hc => rfl)) | ((with_reducible refine' l_ne ?hc ?_); (case hc => rfl))
  | (with_reducible refine' l_int1 ?_) | (with_reducible refine' l_int1b ?_) | (with_reducible refine' l_abs ?_) | (with_reducible refine' l_max2 ?_) | (with_reducible refine' l_min2 ?_)
  | ((with_reducible refine' l_addS ?hc ?_); (case hc => first | with_reducible assumption | decide +kernel | omega))
  | (with_reducible refine' l_leS ?_)
  | ((with_reducible refine' l_lenL ?hc ?_); (case hc => first | assumption | exact SqL.of (by assumption)))
  | ((with_reducible refine' l_lenS ?hc ?_); (case hc => first | with_reducible assumption | decide +kernel)))
local macro_rules | `(tactic| walk_at "s") => `(tactic| repeat (walk_at "s1"))
def topS (i : Nat) : Stmt := PySem.Challenge.pw_skipahead_k00_errors.main.body.getD i (.Pass ⟨0, 0, 0, 0⟩)
abbrev s__law_dice : Stmt := (topS 18)
theorem sc__law_dice : FnScope ["script", "at", "cell", "great", "mixed"] ["script", "at"] (defScope s__law_dice) := ⟨rfl, rfl, rfl, by decide +kernel, rfl, by decide +kernel, by decide +kernel⟩
abbrev s__law_roll : Stmt := (topS 19)
theorem sc__law_roll : FnScope ["dice", "total", "found", "one", "two"] ["dice", "total"] (defScope s__law_roll) := ⟨rfl, rfl, rfl, by decide +kernel, rfl, by decide +kernel, by decide +kernel⟩
abbrev s__law_one_of : Stmt := (topS 20)
theorem sc__law_one_of : FnScope ["dice", "items"] ["dice", "items"] (defScope s__law_one_of) := ⟨rfl, rfl, rfl, by decide +kernel, rfl, by decide +kernel, by decide +kernel⟩
abbrev s__law_name : Stmt := (topS 21)
theorem sc__law_name : FnScope ["dice", "taken", "letters", "word", "turn", "spare", "letter", "one"] ["dice", "taken"] (defScope s__law_name) := ⟨rfl, rfl, rfl, by decide +kernel, rfl, by decide +kernel, by decide +kernel⟩
abbrev s__law_names : Stmt := (topS 22)
theorem sc__law_names : FnScope ["dice", "size", "found", "turn"] ["dice", "size"] (defScope s__law_names) := ⟨rfl, rfl, rfl, by decide +kernel, rfl, by decide +kernel, by decide +kernel⟩
abbrev s__law_kinds : Stmt := (topS 23)
theorem sc__law_kinds : FnScope ["e", "found"] ["e"] (defScope s__law_kinds) := ⟨rfl, rfl, rfl, by decide +kernel, rfl, by decide +kernel, by decide +kernel⟩
abbrev s__law_bases : Stmt := (topS 24)
theorem sc__law_bases : FnScope ["e", "found"] ["e"] (defScope s__law_bases) := ⟨rfl, rfl, rfl, by decide +kernel, rfl, by decide +kernel, by decide +kernel⟩
abbrev s__law_raise : Stmt := (topS 25)
theorem sc__law_raise : FnScope ["kind", "value"] ["kind", "value"] (defScope s__law_raise) := ⟨rfl, rfl, rfl, by decide +kernel, rfl, by decide +kernel, by decide +kernel⟩
abbrev s__law_raise_more : Stmt := (topS 26)
theorem sc__law_raise_more : FnScope ["kind", "value"] ["kind", "value"] (defScope s__law_raise_more) := ⟨rfl, rfl, rfl, by decide +kernel, rfl, by decide +kernel, by decide +kernel⟩
abbrev s__law_first_handler : Stmt := (topS 27)
theorem sc__law_first_handler : FnScope ["kind", "value", "e"] ["kind", "value"] (defScope s__law_first_handler) := ⟨rfl, rfl, rfl, by decide +kernel, rfl, by decide +kernel, by decide +kernel⟩
abbrev s__law_by_base : Stmt := (topS 28)
theorem sc__law_by_base : FnScope ["kind", "value"] ["kind", "value"] (defScope s__law_by_base) := ⟨rfl, rfl, rfl, by decide +kernel, rfl, by decide +kernel, by decide +kernel⟩
abbrev s__law_right : Stmt := (topS 29)
theorem sc__law_right : FnScope ["dice", "word", "number", "odd", "row", "made", "kind", "e", "due", "value", "more", "place"] ["dice"] (defScope s__law_right) := ⟨rfl, rfl, rfl, by decide +kernel, rfl, by decide +kernel, by decide +kernel⟩
abbrev s_law : Stmt := (topS 30)
theorem sc_law : FnScope ["script", "at", "value", "key", "index", "told", "due"] ["script"] (defScope s_law) := ⟨rfl, rfl, rfl, by decide +kernel, rfl, by decide +kernel, by decide +kernel⟩
abbrev s_ParseError_init : Stmt := (inClass (topS 11) 0)
theorem sc_ParseError_init : SupScope ["self", "number"] ["self", "number"] "self" (defScope s_ParseError_init) := ⟨rfl, rfl, rfl, by decide +kernel, rfl, by decide +kernel, by decide +kernel, by decide +kernel, by decide +kernel, by decide +kernel, by decide +kernel⟩
abbrev s_UnknownName_init : Stmt := (inClass (topS 12) 0)
theorem sc_UnknownName_init : SupScope ["self", "name"] ["self", "name"] "self" (defScope s_UnknownName_init) := ⟨rfl, rfl, rfl, by decide +kernel, rfl, by decide +kernel, by decide +kernel, by decide +kernel, by decide +kernel, by decide +kernel, by decide +kernel⟩
abbrev s_InvalidNumber_init : Stmt := (inClass (topS 13) 0)
theorem sc_InvalidNumber_init : SupScope ["self", "value"] ["self", "value"] "self" (defScope s_InvalidNumber_init) := ⟨rfl, rfl, rfl, by decide +kernel, rfl, by decide +kernel, by decide +kernel, by decide +kernel, by decide +kernel, by decide +kernel, by decide +kernel⟩
abbrev s_NothingToUndo_init : Stmt := (inClass (topS 14) 0)
theorem sc_NothingToUndo_init : SupScope ["self", "many"] ["self", "many"] "self" (defScope s_NothingToUndo_init) := ⟨rfl, rfl, rfl, by decide +kernel, rfl, by decide +kernel, by decide +kernel, by decide +kernel, by decide +kernel, by decide +kernel, by decide +kernel⟩
abbrev s_TooMany_init : Stmt := (inClass (topS 15) 0)
theorem sc_TooMany_init : SupScope ["self", "limit"] ["self", "limit"] "self" (defScope s_TooMany_init) := ⟨rfl, rfl, rfl, by decide +kernel, rfl, by decide +kernel, by decide +kernel, by decide +kernel, by decide +kernel, by decide +kernel, by decide +kernel⟩
abbrev s_Unlike_init : Stmt := (inClass (topS 16) 0)
theorem sc_Unlike_init : SupScope ["self", "row"] ["self", "row"] "self" (defScope s_Unlike_init) := ⟨rfl, rfl, rfl, by decide +kernel, rfl, by decide +kernel, by decide +kernel, by decide +kernel, by decide +kernel, by decide +kernel, by decide +kernel⟩
abbrev prog0 : Program := PySem.Challenge.rw_skipahead_k00_errors.prog
structure Txt (K : PySem.W.Frag) (mg : Str → Option Value) where
  a__law_dice : Addr
  d__law_dice : FuncData
  F__law_dice : Fun K "_law_dice" "_law_dice" s__law_dice a__law_dice d__law_dice
  m__law_dice : mg "_law_dice" = some (.ref a__law_dice)
  b__law_dice : Binds K d__law_dice ["script", "at"] []
  a__law_roll : Addr
  d__law_roll : FuncData
  F__law_roll : Fun K "_law_roll" "_law_roll" s__law_roll a__law_roll d__law_roll
  m__law_roll : mg "_law_roll" = some (.ref a__law_roll)
  b__law_roll : Binds K d__law_roll ["dice", "total"] []
  a__law_one_of : Addr
  d__law_one_of : FuncData
  F__law_one_of : Fun K "_law_one_of" "_law_one_of" s__law_one_of a__law_one_of d__law_one_of
  m__law_one_of : mg "_law_one_of" = some (.ref a__law_one_of)
  b__law_one_of : Binds K d__law_one_of ["dice", "items"] []
  a__law_name : Addr
  d__law_name : FuncData
  F__law_name : Fun K "_law_name" "_law_name" s__law_name a__law_name d__law_name
  m__law_name : mg "_law_name" = some (.ref a__law_name)
  b__law_name : Binds K d__law_name ["dice", "taken"] []
  a__law_names : Addr
  d__law_names : FuncData
  F__law_names : Fun K "_law_names" "_law_names" s__law_names a__law_names d__law_names
  m__law_names : mg "_law_names" = some (.ref a__law_names)
  b__law_names : Binds K d__law_names ["dice", "size"] []
  a__law_kinds : Addr
  d__law_kinds : FuncData
  F__law_kinds : Fun K "_law_kinds" "_law_kinds" s__law_kinds a__law_kinds d__law_kinds
  m__law_kinds : mg "_law_kinds" = some (.ref a__law_kinds)
  b__law_kinds : Binds K d__law_kinds ["e"] []
  a__law_bases : Addr
  d__law_bases : FuncData
  F__law_bases : Fun K "_law_bases" "_law_bases" s__law_bases a__law_bases d__law_bases
  m__law_bases : mg "_law_bases" = some (.ref a__law_bases)
  b__law_bases : Binds K d__law_bases ["e"] []
  a__law_raise : Addr
  d__law_raise : FuncData
  F__law_raise : Fun K "_law_raise" "_law_raise" s__law_raise a__law_raise d__law_raise
  m__law_raise : mg "_law_raise" = some (.ref a__law_raise)
  b__law_raise : Binds K d__law_raise ["kind", "value"] []
  a__law_raise_more : Addr
  d__law_raise_more : FuncData
  F__law_raise_more : Fun K "_law_raise_more" "_law_raise_more" s__law_raise_more a__law_raise_more d__law_raise_more
  m__law_raise_more : mg "_law_raise_more" = some (.ref a__law_raise_more)
  b__law_raise_more : Binds K d__law_raise_more ["kind", "value"] []
  a__law_first_handler : Addr
  d__law_first_handler : FuncData
  F__law_first_handler : Fun K "_law_first_handler" "_law_first_handler" s__law_first_handler a__law_first_handler d__law_first_handler
  m__law_first_handler : mg "_law_first_handler" = some (.ref a__law_first_handler)
  b__law_first_handler : Binds K d__law_first_handler ["kind", "value"] []
  a__law_by_base : Addr
  d__law_by_base : FuncData
  F__law_by_base : Fun K "_law_by_base" "_law_by_base" s__law_by_base a__law_by_base d__law_by_base
  m__law_by_base : mg "_law_by_base" = some (.ref a__law_by_base)
  b__law_by_base : Binds K d__law_by_base ["kind", "value"] []
  a__law_right : Addr
  d__law_right : FuncData
  F__law_right : Fun K "_law_right" "_law_right" s__law_right a__law_right d__law_right
  m__law_right : mg "_law_right" = some (.ref a__law_right)
  b__law_right : Binds K d__law_right ["dice"] []
  a_law : Addr
  d_law : FuncData
  F_law : Fun K "law" "law" s_law a_law d_law
  m_law : mg "law" = some (.ref a_law)
  b_law : Binds K d_law ["script"] []
  z_IndexError : mg "IndexError" = none
  z_KeyError : mg "KeyError" = none
  z_LookupError : mg "LookupError" = none
  z_OverflowError : mg "OverflowError" = none
  z_RuntimeError : mg "RuntimeError" = none
  z_ValueError : mg "ValueError" = none
  z_abs : mg "abs" = none
  z_enumerate : mg "enumerate" = none
  z_int : mg "int" = none
  z_isinstance : mg "isinstance" = none
  z_len : mg "len" = none
  z_max : mg "max" = none
  z_min : mg "min" = none
  z_range : mg "range" = none
  z_repr : mg "repr" = none
  z_tuple : mg "tuple" = none
  c_AheadError : Addr
  e_AheadError : Own0 K mg "AheadError" c_AheadError "ValueError.__new__" tlVE
  c_InvalidBook : Addr
  e_InvalidBook : Own0 K mg "InvalidBook" c_InvalidBook "ValueError.__new__" tlVE
  c_InvalidItem : Addr
  e_InvalidItem : Own0 K mg "InvalidItem" c_InvalidItem "ValueError.__new__" tlVE
  c_InvalidProgram : Addr
  e_InvalidProgram : Own0 K mg "InvalidProgram" c_InvalidProgram "ValueError.__new__" tlVE
  c_InvalidSender : Addr
  e_InvalidSender : Own0 K mg "InvalidSender" c_InvalidSender "ValueError.__new__" tlVE
  c_InvalidServer : Addr
  e_InvalidServer : Own0 K mg "InvalidServer" c_InvalidServer "ValueError.__new__" tlVE
  c_InvalidFacts : Addr
  e_InvalidFacts : Own0 K mg "InvalidFacts" c_InvalidFacts "ValueError.__new__" tlVE
  c_InvalidRow : Addr
  e_InvalidRow : Own0 K mg "InvalidRow" c_InvalidRow "ValueError.__new__" tlVE
  c_InvalidStand : Addr
  e_InvalidStand : Own0 K mg "InvalidStand" c_InvalidStand "ValueError.__new__" tlVE
  c_InvalidOperation : Addr
  e_InvalidOperation : Own0 K mg "InvalidOperation" c_InvalidOperation "ValueError.__new__" tlVE
  c_ParseError : Addr
  i_ParseError : Addr
  d_ParseError : FuncData
  e_ParseError : Own1 prog0 K mg "ParseError" c_ParseError i_ParseError d_ParseError "ValueError" "ValueError.__new__" "ValueError.__init__" tlVE "ParseError.__init__" "self" "number" "number" s_ParseError_init
  c_UnknownName : Addr
  i_UnknownName : Addr
  d_UnknownName : FuncData
  e_UnknownName : Own1 prog0 K mg "UnknownName" c_UnknownName i_UnknownName d_UnknownName "KeyError" "LookupError.__new__" "KeyError.__init__" tlKE "UnknownName.__init__" "self" "name" "name" s_UnknownName_init
  c_InvalidNumber : Addr
  i_InvalidNumber : Addr
  d_InvalidNumber : FuncData
  e_InvalidNumber : Own1 prog0 K mg "InvalidNumber" c_InvalidNumber i_InvalidNumber d_InvalidNumber "IndexError" "IndexError.__new__" "IndexError.__init__" tlIE "InvalidNumber.__init__" "self" "value" "value" s_InvalidNumber_init
  c_NothingToUndo : Addr
  i_NothingToUndo : Addr
  d_NothingToUndo : FuncData
  e_NothingToUndo : Own1 prog0 K mg "NothingToUndo" c_NothingToUndo i_NothingToUndo d_NothingToUndo "LookupError" "LookupError.__new__" "LookupError.__init__" tlLE "NothingToUndo.__init__" "self" "many" "many" s_NothingToUndo_init
  c_TooMany : Addr
  i_TooMany : Addr
  d_TooMany : FuncData
  e_TooMany : Own1 prog0 K mg "TooMany" c_TooMany i_TooMany d_TooMany "OverflowError" "OverflowError.__new__" "OverflowError.__init__" tlOE "TooMany.__init__" "self" "limit" "limit" s_TooMany_init
  c_Unlike : Addr
  i_Unlike : Addr
  d_Unlike : FuncData
  e_Unlike : Own1 prog0 K mg "Unlike" c_Unlike i_Unlike d_Unlike "RuntimeError" "RuntimeError.__new__" "RuntimeError.__init__" tlRE "Unlike.__init__" "self" "row" "row" s_Unlike_init
  tabC : isTab K [c_AheadError, c_InvalidBook, c_InvalidItem, c_InvalidProgram, c_InvalidSender, c_InvalidServer, c_InvalidFacts, c_InvalidRow, c_InvalidStand, c_InvalidOperation, c_ParseError, c_UnknownName, c_InvalidNumber, c_NothingToUndo, c_TooMany, c_Unlike] [.ref c_AheadError, .ref c_InvalidBook, .ref c_InvalidItem, .ref c_InvalidProgram, .ref c_InvalidSender, .ref c_InvalidServer, .ref c_InvalidFacts, .ref c_InvalidRow, .ref c_InvalidStand, .ref c_InvalidOperation, .ref c_ParseError, .ref c_UnknownName, .ref c_InvalidNumber, .ref c_NothingToUndo, .ref c_TooMany, .ref c_Unlike] = [[some true, some false, some false, some false, some false, some false, some false, some false, some false, some false, some false, some false, some false, some false, some false, some false], [some true, some true, some false, some false, some false, some false, some false, some false, some false, some false, some false, some false, some false, some false, some false, some false], [some true, some false, some true, some false, some false, some false, some false, some false, some false, some false, some false, some false, some false, some false, some false, some false], [some true, some false, some false, some true, some false, some false, some false, some false, some false, some false, some false, some false, some false, some false, some false, some false], [some true, some false, some false, some false, some true, some false, some false, some false, some false, some false, some false, some false, some false, some false, some false, some false], [some true, some false, some false, some false, some false, some true, some false, some false, some false, some false, some false, some false, some false, some false, some false, some false], [some true, some false, some false, some false, some false, some false, some true, some false, some false, some false, some false, some false, some false, some false, some false, some false], [some true, some false, some false, some false, some false, some false, some false, some true, some false, some false, some false, some false, some false, some false, some false, some false], [some true, some false, some false, some false, some false, some false, some false, some false, some true, some false, some false, some false, some false, some false, some false, some false], [some true, some false, some false, some false, some false, some false, some false, some false, some false, some true, some false, some false, some false, some false, some false, some false], [some true, some false, some false, some false, some false, some false, some false, some false, some false, some false, some true, some false, some false, some false, some false, some false], [some false, some false, some false, some false, some false, some false, some false, some false, some false, some false, some false, some true, some false, some false, some false, some false], [some false, some false, some false, some false, some false, some false, some false, some false, some false, some false, some false, some false, some true, some false, some false, some false], [some false, some false, some false, some false, some false, some false, some false, some false, some false, some false, some false, some false, some false, some true, some false, some false], [some false, some false, some false, some false, some false, some false, some false, some false, some false, some false, some false, some false, some false, some false, some true, some false], [some false, some false, some false, some false, some false, some false, some false, some false, some false, some false, some false, some false, some false, some false, some false, some true]]
  tabE : exTab K [c_AheadError, c_InvalidBook, c_InvalidItem, c_InvalidProgram, c_InvalidSender, c_InvalidServer, c_InvalidFacts, c_InvalidRow, c_InvalidStand, c_InvalidOperation, c_ParseError, c_UnknownName, c_InvalidNumber, c_NothingToUndo, c_TooMany, c_Unlike] = [[some true, some false, some false, some false, some false, some false, some false, some false, some false, some false, some false, some false, some false, some false, some false, some false], [some true, some true, some false, some false, some false, some false, some false, some false, some false, some false, some false, some false, some false, some false, some false, some false], [some true, some false, some true, some false, some false, some false, some false, some false, some false, some false, some false, some false, some false, some false, some false, some false], [some true, some false, some false, some true, some false, some false, some false, some false, some false, some false, some false, some false, some false, some false, some false, some false], [some true, some false, some false, some false, some true, some false, some false, some false, some false, some false, some false, some false, some false, some false, some false, some false], [some true, some false, some false, some false, some false, some true, some false, some false, some false, some false, some false, some false, some false, some false, some false, some false], [some true, some false, some false, some false, some false, some false, some true, some false, some false, some false, some false, some false, some false, some false, some false, some false], [some true, some false, some false, some false, some false, some false, some false, some true, some false, some false, some false, some false, some false, some false, some false, some false], [some true, some false, some false, some false, some false, some false, some false, some false, some true, some false, some false, some false, some false, some false, some false, some false], [some true, some false, some false, some false, some false, some false, some false, some false, some false, some true, some false, some false, some false, some false, some false, some false], [some true, some false, some false, some false, some false, some false, some false, some false, some false, some false, some true, some false, some false, some false, some false, some false], [some false, some false, some false, some false, some false, some false, some false, some false, some false, some false, some false, some true, some false, some false, some false, some false], [some false, some false, some false, some false, some false, some false, some false, some false, some false, some false, some false, some false, some true, some false, some false, some false], [some false, some false, some false, some false, some false, some false, some false, some false, some false, some false, some false, some false, some false, some true, some false, some false], [some false, some false, some false, some false, some false, some false, some false, some false, some false, some false, some false, some false, some false, some false, some true, some false], [some false, some false, some false, some false, some false, some false, some false, some false, some false, some false, some false, some false, some false, some false, some false, some true]]
  tabB : isTab K [c_AheadError, c_InvalidBook, c_InvalidItem, c_InvalidProgram, c_InvalidSender, c_InvalidServer, c_InvalidFacts, c_InvalidRow, c_InvalidStand, c_InvalidOperation, c_ParseError, c_UnknownName, c_InvalidNumber, c_NothingToUndo, c_TooMany, c_Unlike] [.type "ValueError", .type "KeyError", .type "IndexError", .type "LookupError", .type "OverflowError", .type "RuntimeError"] = [[some true, some false, some false, some false, some false, some false], [some true, some false, some false, some false, some false, some false], [some true, some false, some false, some false, some false, some false], [some true, some false, some false, some false, some false, some false], [some true, some false, some false, some false, some false, some false], [some true, some false, some false, some false, some false, some false], [some true, some false, some false, some false, some false, some false], [some true, some false, some false, some false, some false, some false], [some true, some false, some false, some false, some false, some false], [some true, some false, some false, some false, some false, some false], [some true, some false, some false, some false, some false, some false], [some false, some true, some false, some true, some false, some false], [some false, some false, some true, some true, some false, some false], [some false, some false, some false, some true, some false, some false], [some false, some false, some false, some false, some true, some false], [some false, some false, some false, some false, some false, some true]]
section
variable {P : Program} {w : World} {K : PySem.W.Frag} {mg : Str → Option Value} {base : Heap}
def sp__law_dice (K : PySem.W.Frag) : Sp := fun vs H Q _ => ∃ (a : Addr) (ns : List Int) (i : Int), vs = [.ref a, .int i] ∧ SqL K H a (ns.map V.int) ∧ 0 ≤ i ∧
  ∀ p H', H p = none → Same H H' → DiceAt H' p → Q (.ref p) H'
theorem map_int_at {ns : List Int} {x : V} (h : x ∈ ns.map V.int) : ∃ z, x = .int z := by
  obtain ⟨z, _, e⟩ := List.mem_map.mp h
  exact ⟨z, e.symm⟩
theorem ok__law_dice (T : Txt K mg) : FnG P w K mg base CX0 1 T.a__law_dice T.d__law_dice ["script", "at"] (sp__law_dice K) := by
  refine okG T.F__law_dice sc__law_dice (fun vs H Q E h => ?_) (fun cdv A fs s H vs Q E hr h => ?_)
  · obtain ⟨a, ns, i, rfl, _⟩ := h
    rfl
  obtain ⟨a, ns, i, rfl, hS, h0, k⟩ := h
  have nd := sc__law_dice.nd
  refine ⟨_, ((pss_cons (ps_set (i := 2) nd rfl (Or.inl rfl) (pe_op op_add (pe_op op_mul pe_int (pv 1)) pe_int))
  (pss_cons (ps_if (pt_cmpR op_lt (pv 1) (pe_callB c_len (by rfl) T.z_len (by decide +kernel) (pa_cons (pv 0) pa_nil)) (nomark _)) (pss_one (ps_set (i := 2) nd rfl (Or.inl rfl) (pe_ix ix_list (pv 0) (pv 1) (fun _ _ => rfl)))) pss_nil)
  (pss_cons (ps_set (i := 3) nd rfl (Or.inl rfl) (pe_op op_mod (pe_callTy c_int (by rfl) T.z_int (by decide +kernel) (pa_cons (pe_callB c_abs (by rfl) T.z_abs (by decide +kernel) (pa_cons (pv 2) pa_nil)) pa_nil)) (pe_op op_powW (pe_op op_powW pe_int pe_int) pe_int)))
  (pss_cons (ps_set (i := 4) nd rfl (Or.inl rfl) (pe_op op_add (pe_op op_add (pe_op op_add (pe_op op_mul (pe_op op_mod (pe_callTy c_int (by rfl) T.z_int (by decide +kernel) (pa_cons (pv 3) pa_nil)) pe_int) pe_int) (pe_op op_mul pe_int (pv 1))) (pe_op op_mul pe_int (pe_callTy c_int (by rfl) T.z_int (by decide +kernel) (pa_cons (pe_cmpR op_lt (pv 2) pe_int (nomark _)) pa_nil)))) pe_int))
  (pss_one (ps_ret (pe_lst (pa_cons (pe_callB (c_max2 rfl) (by rfl) T.z_max (by decide +kernel) (pa_cons pe_int (pa_cons (pe_op op_sub (pv 3) (pe_op op_powW pe_int pe_int)) pa_nil))) (pa_cons (pe_op op_mod (pe_callTy c_int (by rfl) T.z_int (by decide +kernel) (pa_cons (pv 4) pa_nil)) pe_int) (pa_cons pe_int pa_nil))))))))))), ?_⟩
  walk_at "s"
  refine i_dec (fun c => ?_) (fun c => ?_)
  · obtain ⟨x, hx, _, hi⟩ := at_in (xs := ns.map V.int) h0 c
    obtain ⟨z, rfl⟩ := map_int_at hx
    walk_at "s"
    refine l_ixL hS hi ?_
    walk_at "s"
    refine ⟨by show 3 ≤ sizeLine; decide, fun p np => ?_⟩
    exact k p _ np (Same.upd0 np) ⟨_, _, _, upd_same⟩
  · walk_at "s"
    refine ⟨by show 3 ≤ sizeLine; decide, fun p np => ?_⟩
    exact k p _ np (Same.upd0 np) ⟨_, _, _, upd_same⟩

def sp__law_roll : Sp := fun vs H Q _ => ∃ (d : Addr) (t : Int), vs = [.ref d, .int t] ∧ DiceAt H d ∧ 0 < t ∧ t < 1000000000000000001 ∧ ∀ r H', 0 ≤ r → r < t → Dc d H H' → Q (.int r) H'
theorem dice_set {d : Addr} {H : Hp} {a b c : Int} (h : H d = some (.lst [.int a, .int b, .int c])) (x y z : Int) : Dc d H (upd H d (.lst [.int x, .int y, .int z])) :=
  ⟨(Keep.refl H).set, x, y, z, upd_same⟩
theorem l_set3 {d : Addr} {H : Hp} {xs ys : List V} {x : V} {i : Int} {j : Nat} {Q : Hp → Prop} (h : H d = some (.lst xs)) (hj : ixN xs.length i = some j) (e : xs.set j x = ys) (q : Q (upd H d (.lst ys))) :
    rSetL (.ref d) (.int i) x H Q := by
  subst e
  exact ⟨d, xs, i, j, rfl, rfl, h, hj, q⟩
theorem ok__law_roll (T : Txt K mg) : FnG P w K mg base CX0 1 T.a__law_roll T.d__law_roll ["dice", "total"] sp__law_roll := by
  refine okG T.F__law_roll sc__law_roll (fun vs H Q E h => ?_) (fun cdv A fs s H vs Q E hr h => ?_)
  · obtain ⟨d, t, rfl, _⟩ := h
    rfl
  obtain ⟨d, t, rfl, ⟨x, y, z, hd⟩, t0, t1, k⟩ := h
  have nd := sc__law_roll.nd
  have dv : CDivW (x : Int) t := ⟨t0, by omega⟩
  have i0 : atI ([.int x, .int y, .int z] : List V) 0 = some (.int x) := rfl
  have i1 : atI ([.int x, .int y, .int z] : List V) 1 = some (.int y) := rfl
  have i2 : atI ([.int x, .int y, .int z] : List V) 2 = some (.int z) := rfl
  refine ⟨_, ((pss_cons (ps_if (pt_cmpR op_gt (pe_ix ix_list (pv 0) pe_int (fun _ _ => rfl)) pe_int (nomark _)) (pss_cons (ps_set (i := 2) nd rfl (Or.inl rfl) (pe_op op_mod (pe_callTy c_int (by rfl) T.z_int (by decide +kernel) (pa_cons (pe_ix ix_list (pv 0) pe_int (fun _ _ => rfl)) pa_nil)) (pv 1)))
  (pss_cons (ps_asg (pe_op op_fdivW (pe_ix ix_list (pv 0) pe_int (fun _ _ => rfl)) (pv 1)) (pg_sub (pv 0) pe_int set_list))
  (pss_one (ps_ret (pv 2))))) pss_nil)
  (pss_cons (ps_asg (pe_op op_add (pe_ix ix_list (pv 0) pe_int (fun _ _ => rfl)) pe_int) (pg_sub (pv 0) pe_int set_list))
  (pss_cons (ps_set (i := 3) nd rfl (Or.inl rfl) (pe_op op_mod (pe_callTy c_int (by rfl) T.z_int (by decide +kernel) (pa_cons (pe_op op_add (pe_ix ix_list (pv 0) pe_int (fun _ _ => rfl)) (pe_op op_mul pe_int (pe_ix ix_list (pv 0) pe_int (fun _ _ => rfl)))) pa_nil)) pe_int))
  (pss_cons (ps_set (i := 4) nd rfl (Or.inl rfl) (pe_op op_add (pe_op op_mul (pe_op op_mod (pe_callTy c_int (by rfl) T.z_int (by decide +kernel) (pa_cons (pe_op op_mul (pv 3) (pv 3)) pa_nil)) pe_int) (pv 3)) (pe_op op_mul pe_int (pe_ix ix_list (pv 0) pe_int (fun _ _ => rfl)))))
  (pss_cons (ps_set (i := 4) nd rfl (Or.inl rfl) (pe_op op_mod (pe_callTy c_int (by rfl) T.z_int (by decide +kernel) (pa_cons (pv 4) pa_nil)) pe_int))
  (pss_one (ps_ret (pe_op op_mod (pe_callTy c_int (by rfl) T.z_int (by decide +kernel) (pa_cons (pe_op op_fdivW (pv 4) pe_int) pa_nil)) (pv 1)))))))))), ?_⟩
  walk_at "s"
  refine l_ixL (SqL.of hd) i0 ?_
  walk_at "s"
  refine i_dec (fun c => ?_) (fun c => ?_)
  · walk_at "s"
    refine l_ixL (SqL.of hd) i0 ?_
    walk_at "s"
    refine l_ixL (SqL.of hd) i0 ?_
    walk_at "s"
    refine l_set3 hd (j := 0) rfl rfl ?_
    walk_at "s"
    exact k _ _ (Int.emod_nonneg _ (by omega)) (Int.emod_lt_of_pos _ t0) (dice_set hd _ _ _)
  · walk_at "s"
    refine l_ixL (SqL.of hd) i2 ?_
    walk_at "s"
    refine l_set3 hd (j := 2) rfl rfl ?_
    have hd' : (upd H d (.lst [.int x, .int y, .int (z + 1)])) d = some (.lst [.int x, .int y, .int (z + 1)]) := upd_same
    have j1 : atI ([.int x, .int y, .int (z + 1)] : List V) 1 = some (.int y) := rfl
    have j2 : atI ([.int x, .int y, .int (z + 1)] : List V) 2 = some (.int (z + 1)) := rfl
    walk_at "s"
    refine l_ixL (SqL.of hd') j1 ?_
    walk_at "s"
    refine l_ixL (SqL.of hd') j2 ?_
    walk_at "s"
    refine l_ixL (SqL.of hd') j2 ?_
    walk_at "s"
    exact k _ _ (Int.emod_nonneg _ (by omega)) (Int.emod_lt_of_pos _ t0) (dice_set hd _ _ _)
end
section
variable {P : Program} {w : World} {K : PySem.W.Frag} {mg : Str → Option Value} {base : Heap}
def sp__law_one_of (K : PySem.W.Frag) : Sp := fun vs H Q _ => ∃ (d l : Addr) (xs : List V), vs = [.ref d, .ref l] ∧ DiceAt H d ∧ SqL K H l xs ∧ l ≠ d ∧ 0 < xs.length ∧ xs.length < 1000000 ∧
  ∀ x H', x ∈ xs → Dc d H H' → Q x H'
theorem ok__law_one_of (T : Txt K mg) : FnG P w K mg base CX0 2 T.a__law_one_of T.d__law_one_of ["dice", "items"] (sp__law_one_of K) := by
  have G__law_roll : FnG P w K mg base CX0 1 T.a__law_roll T.d__law_roll ["dice", "total"] sp__law_roll := ok__law_roll T
  refine okG T.F__law_one_of sc__law_one_of (fun vs H Q E h => ?_) (fun cdv A fs s H vs Q E hr h => ?_)
  · obtain ⟨d, l, xs, rfl, _⟩ := h
    rfl
  obtain ⟨d, l, xs, rfl, hd, hl, ne, n0, n1, k⟩ := h
  have nd := sc__law_one_of.nd
  refine ⟨_, ((pss_one (ps_ret (pe_ix ix_list (pv 1) (pe_callG G__law_roll (hr.down (by decide)) rfl T.m__law_roll T.F__law_roll.kp T.b__law_roll .nil pass0 (pa_cons (pv 0) (pa_cons (pe_callB c_len (by rfl) T.z_len (by decide +kernel) (pa_cons (pv 1) pa_nil)) pa_nil))) (fun _ _ => rfl))))), ?_⟩
  walk_at "s"
  refine ⟨d, _, rfl, hd, by omega, by omega, fun r H' h0 h1 dc => ?_⟩
  obtain ⟨x, hx, _, hi⟩ := at_in (xs := xs) h0 h1
  exact l_ixL (sql_keep dc.keep ne hl) hi (k x H' hx dc)
end
section
variable {w : World} {K : PySem.W.Frag} {mg : Str → Option Value} {base : Heap}
theorem G_ParseError (T : Txt K mg) (k : Nat) : FnG prog0 w K mg base CX0 (k + 1) T.i_ParseError T.d_ParseError ["self", "number"] (spInit T.c_ParseError "number" K) :=
  init_of T.e_ParseError sc_ParseError_init (by rfl) ⟨by decide, by decide, by decide, by decide⟩ (fun X => ⟨_, rfl⟩) (fun X => rfl) (fun X => rfl) k (fun X e r n v => e ▸ pe_j2 r n v (by decide) (by decide) (by decide +kernel)) fun σ H Q v e sh q => ⟨v, e, sh, q⟩
theorem G_UnknownName (T : Txt K mg) (k : Nat) : FnG prog0 w K mg base CX0 (k + 1) T.i_UnknownName T.d_UnknownName ["self", "name"] (spInit T.c_UnknownName "name" K) :=
  init_of T.e_UnknownName sc_UnknownName_init (by rfl) ⟨by decide, by decide, by decide, by decide⟩ (fun X => ⟨_, rfl⟩) (fun X => rfl) (fun X => rfl) k (fun X e r n v => e ▸ pe_j2 r n v (by decide) (by decide) (by decide +kernel)) fun σ H Q v e sh q => ⟨v, e, sh, q⟩
theorem G_InvalidNumber (T : Txt K mg) (k : Nat) : FnG prog0 w K mg base CX0 (k + 1) T.i_InvalidNumber T.d_InvalidNumber ["self", "value"] (spInit T.c_InvalidNumber "value" K) :=
  init_of T.e_InvalidNumber sc_InvalidNumber_init (by rfl) ⟨by decide, by decide, by decide, by decide⟩ (fun X => ⟨_, rfl⟩) (fun X => rfl) (fun X => rfl) k (fun X e r n v => e ▸ pe_j2 r n v (by decide) (by decide) (by decide +kernel)) fun σ H Q v e sh q => ⟨v, e, sh, q⟩
theorem G_NothingToUndo (T : Txt K mg) (k : Nat) : FnG prog0 w K mg base CX0 (k + 1) T.i_NothingToUndo T.d_NothingToUndo ["self", "many"] (spInit T.c_NothingToUndo "many" K) :=
  init_of T.e_NothingToUndo sc_NothingToUndo_init (by rfl) ⟨by decide, by decide, by decide, by decide⟩ (fun X => ⟨_, rfl⟩) (fun X => rfl) (fun X => rfl) k (fun X e r n v => e ▸ pe_j3 r n v (by decide) (by decide) (by decide +kernel) (by decide +kernel)) fun σ H Q v e sh q => ⟨v, e, sh, q⟩
theorem G_TooMany (T : Txt K mg) (k : Nat) : FnG prog0 w K mg base CX0 (k + 1) T.i_TooMany T.d_TooMany ["self", "limit"] (spInit T.c_TooMany "limit" K) :=
  init_of T.e_TooMany sc_TooMany_init (by rfl) ⟨by decide, by decide, by decide, by decide⟩ (fun X => ⟨_, rfl⟩) (fun X => rfl) (fun X => rfl) k (fun X e r n v => e ▸ pe_j2 r n v (by decide) (by decide) (by decide +kernel)) fun σ H Q v e sh q => ⟨v, e, sh, q⟩
theorem G_Unlike (T : Txt K mg) (k : Nat) : FnG prog0 w K mg base CX0 (k + 1) T.i_Unlike T.d_Unlike ["self", "row"] (spInit T.c_Unlike "row" K) :=
  init_of T.e_Unlike sc_Unlike_init (by rfl) ⟨by decide, by decide, by decide, by decide⟩ (fun X => ⟨_, rfl⟩) (fun X => rfl) (fun X => rfl) k (fun X e r n v => e ▸ pe_j2 r n v (by decide) (by decide) (by decide +kernel)) fun σ H Q v e sh q => ⟨v, e, sh, q⟩
end
section
variable {w : World} {K : PySem.W.Frag} {mg : Str → Option Value} {base : Heap}
def cs (T : Txt K mg) : List Addr := [T.c_AheadError, T.c_InvalidBook, T.c_InvalidItem, T.c_InvalidProgram, T.c_InvalidSender, T.c_InvalidServer, T.c_InvalidFacts, T.c_InvalidRow, T.c_InvalidStand, T.c_InvalidOperation, T.c_ParseError, T.c_UnknownName, T.c_InvalidNumber, T.c_NothingToUndo, T.c_TooMany, T.c_Unlike]
def fls : List Str := ["", "", "", "", "", "", "", "", "", "", "number", "name", "value", "many", "limit", "row"]
/-- what _law_raise(i, v) lets out -/
def Out (T : Txt K mg) (i : Int) (v : V) (H : Hp) (E : XK) : Prop := ∃ (j : Nat) (c : Addr) (f : Str), i = (j : Int) ∧ (cs T)[j]? = some c ∧ fls[j]? = some f ∧ (j < 10 → E (.ref c) none H) ∧ (10 ≤ j → ∀ d, H d = none → E (.ref c) (some d) (upd H d (.xd [(f, v)])))
def sp_raise (T : Txt K mg) : Sp := fun vs H Q E => ∃ (i : Int) (v : V), vs = [.int i, v] ∧ Shw K H v ∧ Out T i v H E
theorem out0 {T : Txt K mg} {i : Int} {v : V} {H : Hp} {E : XK} (o : Out T i v H E) (j : Nat) (c : Addr) (h : i = (j : Int)) (hc : (cs T)[j]? = some c) (l : j < 10) : E (.ref c) none H := by
  obtain ⟨j', c', f', e, a1, a2, a3, a4⟩ := o
  have ej : j' = j := by omega
  subst ej
  rw [hc] at a1
  cases a1
  exact a3 l
theorem out1 {T : Txt K mg} {i : Int} {v : V} {H : Hp} {E : XK} (o : Out T i v H E) (j : Nat) (c : Addr) (f : Str) (h : i = (j : Int)) (hc : (cs T)[j]? = some c) (hf : fls[j]? = some f) (l : 10 ≤ j) {d : Addr} (n : H d = none) : E (.ref c) (some d) (upd H d (.xd [(f, v)])) := by
  obtain ⟨j', c', f', e, a1, a2, a3, a4⟩ := o
  have ej : j' = j := by omega
  subst ej
  rw [hc] at a1
  cases a1
  rw [hf] at a2
  cases a2
  exact a4 l d n
theorem out_lt {T : Txt K mg} {i : Int} {v : V} {H : Hp} {E : XK} (o : Out T i v H E) : 0 ≤ i ∧ i < 16 := by
  obtain ⟨j', c', f', e, a1, _⟩ := o
  have := (List.getElem?_eq_some_iff.mp a1).1
  have l : (cs T).length = 16 := rfl
  omega
theorem i_eqI {i j : Int} {A B : Prop} (h1 : i = j → A) (h2 : i ≠ j → B) : if decide (V.int i = V.int j) = true then A else B :=
  i_dec (fun c => h1 (V.int.inj c)) fun c => h2 fun z => c (by rw [z])
theorem ok__law_raise_more (T : Txt K mg) : FnG prog0 w K mg base (L2.CX prog0 w) 3 T.a__law_raise_more T.d__law_raise_more ["kind", "value"] (fun vs H Q E => sp_raise T vs H Q E ∧ ∀ i v, vs = [.int i, v] → i = 0 ∨ 10 ≤ i) := by
  refine okGX T.F__law_raise_more sc__law_raise_more (fun vs H Q E h => ?_) (fun cdv A fs s H vs Q E hr h tk => ?_)
  · obtain ⟨⟨i, v, rfl, _⟩, _⟩ := h
    rfl
  obtain ⟨⟨i, v, rfl, sh, o⟩, k⟩ := h
  have k := k i v rfl
  have lt := out_lt o
  have nd := sc__law_raise_more.nd
  refine ⟨_, ((pss_cons (ps_if (pt_cmpR op_eq (pv 0) pe_int (nomark _)) (pss_one (ps_raise rfl tk (pmk_makeI T.e_ParseError.o T.e_ParseError.iC T.e_ParseError.tI (G_ParseError (w := w) (base := base) T 0) (hr.down (by decide)) T.e_ParseError.b rfl T.e_ParseError.m (pv 1)))) pss_nil)
  (pss_cons (ps_if (pt_cmpR op_eq (pv 0) pe_int (nomark _)) (pss_one (ps_raise rfl tk (pmk_makeI T.e_UnknownName.o T.e_UnknownName.iC T.e_UnknownName.tI (G_UnknownName (w := w) (base := base) T 0) (hr.down (by decide)) T.e_UnknownName.b rfl T.e_UnknownName.m (pv 1)))) pss_nil)
  (pss_cons (ps_if (pt_cmpR op_eq (pv 0) pe_int (nomark _)) (pss_one (ps_raise rfl tk (pmk_makeI T.e_InvalidNumber.o T.e_InvalidNumber.iC T.e_InvalidNumber.tI (G_InvalidNumber (w := w) (base := base) T 0) (hr.down (by decide)) T.e_InvalidNumber.b rfl T.e_InvalidNumber.m (pv 1)))) pss_nil)
  (pss_cons (ps_if (pt_cmpR op_eq (pv 0) pe_int (nomark _)) (pss_one (ps_raise rfl tk (pmk_makeI T.e_NothingToUndo.o T.e_NothingToUndo.iC T.e_NothingToUndo.tI (G_NothingToUndo (w := w) (base := base) T 0) (hr.down (by decide)) T.e_NothingToUndo.b rfl T.e_NothingToUndo.m (pv 1)))) pss_nil)
  (pss_cons (ps_if (pt_cmpR op_eq (pv 0) pe_int (nomark _)) (pss_one (ps_raise rfl tk (pmk_makeI T.e_TooMany.o T.e_TooMany.iC T.e_TooMany.tI (G_TooMany (w := w) (base := base) T 0) (hr.down (by decide)) T.e_TooMany.b rfl T.e_TooMany.m (pv 1)))) pss_nil)
  (pss_cons (ps_if (pt_cmpR op_eq (pv 0) pe_int (nomark _)) (pss_one (ps_raise rfl tk (pmk_makeI T.e_Unlike.o T.e_Unlike.iC T.e_Unlike.tI (G_Unlike (w := w) (base := base) T 0) (hr.down (by decide)) T.e_Unlike.b rfl T.e_Unlike.m (pv 1)))) pss_nil)
  (pss_one (ps_raise rfl tk (pmk_make0 F.excBase_ValueError T.e_AheadError.q T.e_AheadError.m T.e_AheadError.kC (raises_own T.e_AheadError.ec.hs T.e_AheadError.ty) rfl (pv 1))))))))))), ?_⟩
  walk_at "s"
  refine i_eqI (fun c => ?_) (fun c => ?_)
  · walk_at "s"
    exact ⟨fun a n => shw_u sh a _ n, fun d n => out1 o 10 _ _ (by omega) rfl rfl (by decide) n⟩
  walk_at "s"
  refine i_eqI (fun c => ?_) (fun c => ?_)
  · walk_at "s"
    exact ⟨fun a n => shw_u sh a _ n, fun d n => out1 o 11 _ _ (by omega) rfl rfl (by decide) n⟩
  walk_at "s"
  refine i_eqI (fun c => ?_) (fun c => ?_)
  · walk_at "s"
    exact ⟨fun a n => shw_u sh a _ n, fun d n => out1 o 12 _ _ (by omega) rfl rfl (by decide) n⟩
  walk_at "s"
  refine i_eqI (fun c => ?_) (fun c => ?_)
  · walk_at "s"
    exact ⟨fun a n => shw_u sh a _ n, fun d n => out1 o 13 _ _ (by omega) rfl rfl (by decide) n⟩
  walk_at "s"
  refine i_eqI (fun c => ?_) (fun c => ?_)
  · walk_at "s"
    exact ⟨fun a n => shw_u sh a _ n, fun d n => out1 o 14 _ _ (by omega) rfl rfl (by decide) n⟩
  walk_at "s"
  refine i_eqI (fun c => ?_) (fun c => ?_)
  · walk_at "s"
    exact ⟨fun a n => shw_u sh a _ n, fun d n => out1 o 15 _ _ (by omega) rfl rfl (by decide) n⟩
  walk_at "s"
  exact out0 o 0 _ (by omega) rfl (by decide)
theorem ok__law_raise (T : Txt K mg) : FnG prog0 w K mg base (L2.CX prog0 w) 4 T.a__law_raise T.d__law_raise ["kind", "value"] (sp_raise T) := by
  have G__law_raise_more : FnG prog0 w K mg base (L2.CX prog0 w) 3 T.a__law_raise_more T.d__law_raise_more ["kind", "value"] (fun vs H Q E => sp_raise T vs H Q E ∧ ∀ i v, vs = [.int i, v] → i = 0 ∨ 10 ≤ i) := ok__law_raise_more T
  refine okGX T.F__law_raise sc__law_raise (fun vs H Q E h => ?_) (fun cdv A fs s H vs Q E hr h tk => ?_)
  · obtain ⟨i, v, rfl, _⟩ := h
    rfl
  obtain ⟨i, v, rfl, sh, o⟩ := h
  have lt := out_lt o
  have nd := sc__law_raise.nd
  refine ⟨_, ((pss_cons (ps_if (pt_cmpR op_eq (pv 0) pe_int (nomark _)) (pss_one (ps_raise rfl tk (pmk_make0 F.excBase_ValueError T.e_InvalidBook.q T.e_InvalidBook.m T.e_InvalidBook.kC (raises_own T.e_InvalidBook.ec.hs T.e_InvalidBook.ty) rfl (pv 1)))) pss_nil)
  (pss_cons (ps_if (pt_cmpR op_eq (pv 0) pe_int (nomark _)) (pss_one (ps_raise rfl tk (pmk_make0 F.excBase_ValueError T.e_InvalidItem.q T.e_InvalidItem.m T.e_InvalidItem.kC (raises_own T.e_InvalidItem.ec.hs T.e_InvalidItem.ty) rfl (pv 1)))) pss_nil)
  (pss_cons (ps_if (pt_cmpR op_eq (pv 0) pe_int (nomark _)) (pss_one (ps_raise rfl tk (pmk_make0 F.excBase_ValueError T.e_InvalidProgram.q T.e_InvalidProgram.m T.e_InvalidProgram.kC (raises_own T.e_InvalidProgram.ec.hs T.e_InvalidProgram.ty) rfl (pv 1)))) pss_nil)
  (pss_cons (ps_if (pt_cmpR op_eq (pv 0) pe_int (nomark _)) (pss_one (ps_raise rfl tk (pmk_make0 F.excBase_ValueError T.e_InvalidSender.q T.e_InvalidSender.m T.e_InvalidSender.kC (raises_own T.e_InvalidSender.ec.hs T.e_InvalidSender.ty) rfl (pv 1)))) pss_nil)
  (pss_cons (ps_if (pt_cmpR op_eq (pv 0) pe_int (nomark _)) (pss_one (ps_raise rfl tk (pmk_make0 F.excBase_ValueError T.e_InvalidServer.q T.e_InvalidServer.m T.e_InvalidServer.kC (raises_own T.e_InvalidServer.ec.hs T.e_InvalidServer.ty) rfl (pv 1)))) pss_nil)
  (pss_cons (ps_if (pt_cmpR op_eq (pv 0) pe_int (nomark _)) (pss_one (ps_raise rfl tk (pmk_make0 F.excBase_ValueError T.e_InvalidFacts.q T.e_InvalidFacts.m T.e_InvalidFacts.kC (raises_own T.e_InvalidFacts.ec.hs T.e_InvalidFacts.ty) rfl (pv 1)))) pss_nil)
  (pss_cons (ps_if (pt_cmpR op_eq (pv 0) pe_int (nomark _)) (pss_one (ps_raise rfl tk (pmk_make0 F.excBase_ValueError T.e_InvalidRow.q T.e_InvalidRow.m T.e_InvalidRow.kC (raises_own T.e_InvalidRow.ec.hs T.e_InvalidRow.ty) rfl (pv 1)))) pss_nil)
  (pss_cons (ps_if (pt_cmpR op_eq (pv 0) pe_int (nomark _)) (pss_one (ps_raise rfl tk (pmk_make0 F.excBase_ValueError T.e_InvalidStand.q T.e_InvalidStand.m T.e_InvalidStand.kC (raises_own T.e_InvalidStand.ec.hs T.e_InvalidStand.ty) rfl (pv 1)))) pss_nil)
  (pss_cons (ps_if (pt_cmpR op_eq (pv 0) pe_int (nomark _)) (pss_one (ps_raise rfl tk (pmk_make0 F.excBase_ValueError T.e_InvalidOperation.q T.e_InvalidOperation.m T.e_InvalidOperation.kC (raises_own T.e_InvalidOperation.ec.hs T.e_InvalidOperation.ty) rfl (pv 1)))) pss_nil)
  (pss_one (ps_expr (pe_callGS G__law_raise_more (hr.down (by decide)) rfl T.m__law_raise_more T.F__law_raise_more.kp T.b__law_raise_more (fun σ => passAt tk σ) (pa_cons (pv 0) (pa_cons (pv 1) pa_nil))))))))))))))), ?_⟩
  walk_at "s"
  refine i_eqI (fun c => ?_) (fun c => ?_)
  · walk_at "s"
    exact out0 o 1 _ (by omega) rfl (by decide)
  walk_at "s"
  refine i_eqI (fun c => ?_) (fun c => ?_)
  · walk_at "s"
    exact out0 o 2 _ (by omega) rfl (by decide)
  walk_at "s"
  refine i_eqI (fun c => ?_) (fun c => ?_)
  · walk_at "s"
    exact out0 o 3 _ (by omega) rfl (by decide)
  walk_at "s"
  refine i_eqI (fun c => ?_) (fun c => ?_)
  · walk_at "s"
    exact out0 o 4 _ (by omega) rfl (by decide)
  walk_at "s"
  refine i_eqI (fun c => ?_) (fun c => ?_)
  · walk_at "s"
    exact out0 o 5 _ (by omega) rfl (by decide)
  walk_at "s"
  refine i_eqI (fun c => ?_) (fun c => ?_)
  · walk_at "s"
    exact out0 o 6 _ (by omega) rfl (by decide)
  walk_at "s"
  refine i_eqI (fun c => ?_) (fun c => ?_)
  · walk_at "s"
    exact out0 o 7 _ (by omega) rfl (by decide)
  walk_at "s"
  refine i_eqI (fun c => ?_) (fun c => ?_)
  · walk_at "s"
    exact out0 o 8 _ (by omega) rfl (by decide)
  walk_at "s"
  refine i_eqI (fun c => ?_) (fun c => ?_)
  · walk_at "s"
    exact out0 o 9 _ (by omega) rfl (by decide)
  walk_at "s"
  refine s_callS ?_
  walk_at "s"
  refine ⟨⟨i, v, rfl, sh, ?_⟩, fun j u e => ?_⟩
  · exact o
  · cases e
    omega
end
section
variable {w : World} {K : PySem.W.Frag} {mg : Str → Option Value} {base : Heap}
def bit (j k : Nat) : Bool := decide (k = j) || (decide (k = 0) && decide (j < 11))
theorem bitK (T : Txt K mg) {j k : Nat} {c d : Addr} (hc : (cs T)[j]? = some c) (hd : (cs T)[k]? = some d) : PySem.W.kitOne K (.ref c) (.ref d) = some (bit j k) := by
  have l : (cs T).length = 16 := rfl
  have h1 := (List.getElem?_eq_some_iff.mp hc).1
  have h2 := (List.getElem?_eq_some_iff.mp hd).1
  refine isTab_of (cs := cs T) (ds := (cs T).map Value.ref) (n := 16) (m := 16) (f := bit) ?_ (by omega) (by omega) hc (by rw [List.getElem?_map, hd]; rfl)
  exact T.tabC.trans (by decide +kernel)
theorem ecK (T : Txt K mg) {j : Nat} {c : Addr} (hc : (cs T)[j]? = some c) : ExcC K c ∧ XfC K c := by
  have h : ∀ c ∈ cs T, ExcC K c ∧ XfC K c := by
    intro c hc
    simp only [cs, List.mem_cons, List.not_mem_nil, or_false] at hc
    rcases hc with rfl | rfl | rfl | rfl | rfl | rfl | rfl | rfl | rfl | rfl | rfl | rfl | rfl | rfl | rfl | rfl
    · exact ⟨T.e_AheadError.ec, T.e_AheadError.xf⟩
    · exact ⟨T.e_InvalidBook.ec, T.e_InvalidBook.xf⟩
    · exact ⟨T.e_InvalidItem.ec, T.e_InvalidItem.xf⟩
    · exact ⟨T.e_InvalidProgram.ec, T.e_InvalidProgram.xf⟩
    · exact ⟨T.e_InvalidSender.ec, T.e_InvalidSender.xf⟩
    · exact ⟨T.e_InvalidServer.ec, T.e_InvalidServer.xf⟩
    · exact ⟨T.e_InvalidFacts.ec, T.e_InvalidFacts.xf⟩
    · exact ⟨T.e_InvalidRow.ec, T.e_InvalidRow.xf⟩
    · exact ⟨T.e_InvalidStand.ec, T.e_InvalidStand.xf⟩
    · exact ⟨T.e_InvalidOperation.ec, T.e_InvalidOperation.xf⟩
    · exact ⟨T.e_ParseError.ec, T.e_ParseError.xf⟩
    · exact ⟨T.e_UnknownName.ec, T.e_UnknownName.xf⟩
    · exact ⟨T.e_InvalidNumber.ec, T.e_InvalidNumber.xf⟩
    · exact ⟨T.e_NothingToUndo.ec, T.e_NothingToUndo.xf⟩
    · exact ⟨T.e_TooMany.ec, T.e_TooMany.xf⟩
    · exact ⟨T.e_Unlike.ec, T.e_Unlike.xf⟩
  exact h c (List.mem_of_getElem? hc)
theorem none_of {H G : Hp} {p : Addr} (s : Same H G) (n : G p = none) : H p = none := by
  cases e : H p with
  | none => rfl
  | some o =>
    rw [s _ _ e] at n
    cases n
def sp_kinds (T : Txt K mg) : Sp := fun vs H Q _ => ∃ (a c : Addr) (j : Nat) (od : Option Addr) (fs : List (Str × V)), vs = [.ref a] ∧ (cs T)[j]? = some c ∧ XAt H a c od fs ∧
  ∀ p G, H p = none → Same H G → G p = some (.lst ((List.range 16).map fun k => V.bl (bit j k))) → Q (.ref p) G
theorem ok__law_kinds (T : Txt K mg) : FnW prog0 w K mg base CX0 1 T.a__law_kinds T.d__law_kinds ["e"] (sp_kinds T) := by
  refine okW T.F__law_kinds sc__law_kinds (fun vs H Q E h => ?_) (fun cdv A fs s H vs Q E hr h => ?_)
  · obtain ⟨a, c, j, od, fs, rfl, _⟩ := h
    rfl
  obtain ⟨a, c, j, od, fs, rfl, hc, x, k⟩ := h
  have ec := (ecK T hc).1
  have nd := sc__law_kinds.nd
  refine ⟨_, ((pss_cons (ps_set (i := 1) nd rfl (Or.inl rfl) (pe_lst (pa_cons (pe_callB call_isX (by rfl) T.z_isinstance (by decide +kernel) (pa_cons (pv 0) (pa_cons (pe_glob (v := .ref T.c_AheadError) rfl T.e_AheadError.m rfl) pa_nil))) (pa_cons (pe_callB call_isX (by rfl) T.z_isinstance (by decide +kernel) (pa_cons (pv 0) (pa_cons (pe_glob (v := .ref T.c_InvalidBook) rfl T.e_InvalidBook.m rfl) pa_nil))) (pa_cons (pe_callB call_isX (by rfl) T.z_isinstance (by decide +kernel) (pa_cons (pv 0) (pa_cons (pe_glob (v := .ref T.c_InvalidItem) rfl T.e_InvalidItem.m rfl) pa_nil))) pa_nil)))))
  (pss_cons (ps_set (i := 1) nd rfl (Or.inl rfl) (pe_op op_cat (pv 1) (pe_lst (pa_cons (pe_callB call_isX (by rfl) T.z_isinstance (by decide +kernel) (pa_cons (pv 0) (pa_cons (pe_glob (v := .ref T.c_InvalidProgram) rfl T.e_InvalidProgram.m rfl) pa_nil))) (pa_cons (pe_callB call_isX (by rfl) T.z_isinstance (by decide +kernel) (pa_cons (pv 0) (pa_cons (pe_glob (v := .ref T.c_InvalidSender) rfl T.e_InvalidSender.m rfl) pa_nil))) (pa_cons (pe_callB call_isX (by rfl) T.z_isinstance (by decide +kernel) (pa_cons (pv 0) (pa_cons (pe_glob (v := .ref T.c_InvalidServer) rfl T.e_InvalidServer.m rfl) pa_nil))) pa_nil))))))
  (pss_cons (ps_set (i := 1) nd rfl (Or.inl rfl) (pe_op op_cat (pv 1) (pe_lst (pa_cons (pe_callB call_isX (by rfl) T.z_isinstance (by decide +kernel) (pa_cons (pv 0) (pa_cons (pe_glob (v := .ref T.c_InvalidFacts) rfl T.e_InvalidFacts.m rfl) pa_nil))) (pa_cons (pe_callB call_isX (by rfl) T.z_isinstance (by decide +kernel) (pa_cons (pv 0) (pa_cons (pe_glob (v := .ref T.c_InvalidRow) rfl T.e_InvalidRow.m rfl) pa_nil))) (pa_cons (pe_callB call_isX (by rfl) T.z_isinstance (by decide +kernel) (pa_cons (pv 0) (pa_cons (pe_glob (v := .ref T.c_InvalidStand) rfl T.e_InvalidStand.m rfl) pa_nil))) pa_nil))))))
  (pss_cons (ps_set (i := 1) nd rfl (Or.inl rfl) (pe_op op_cat (pv 1) (pe_lst (pa_cons (pe_callB call_isX (by rfl) T.z_isinstance (by decide +kernel) (pa_cons (pv 0) (pa_cons (pe_glob (v := .ref T.c_InvalidOperation) rfl T.e_InvalidOperation.m rfl) pa_nil))) (pa_cons (pe_callB call_isX (by rfl) T.z_isinstance (by decide +kernel) (pa_cons (pv 0) (pa_cons (pe_glob (v := .ref T.c_ParseError) rfl T.e_ParseError.m rfl) pa_nil))) (pa_cons (pe_callB call_isX (by rfl) T.z_isinstance (by decide +kernel) (pa_cons (pv 0) (pa_cons (pe_glob (v := .ref T.c_UnknownName) rfl T.e_UnknownName.m rfl) pa_nil))) pa_nil))))))
  (pss_cons (ps_set (i := 1) nd rfl (Or.inl rfl) (pe_op op_cat (pv 1) (pe_lst (pa_cons (pe_callB call_isX (by rfl) T.z_isinstance (by decide +kernel) (pa_cons (pv 0) (pa_cons (pe_glob (v := .ref T.c_InvalidNumber) rfl T.e_InvalidNumber.m rfl) pa_nil))) (pa_cons (pe_callB call_isX (by rfl) T.z_isinstance (by decide +kernel) (pa_cons (pv 0) (pa_cons (pe_glob (v := .ref T.c_NothingToUndo) rfl T.e_NothingToUndo.m rfl) pa_nil))) (pa_cons (pe_callB call_isX (by rfl) T.z_isinstance (by decide +kernel) (pa_cons (pv 0) (pa_cons (pe_glob (v := .ref T.c_TooMany) rfl T.e_TooMany.m rfl) pa_nil))) pa_nil))))))
  (pss_one (ps_ret (pe_op op_cat (pv 1) (pe_lst (pa_cons (pe_callB call_isX (by rfl) T.z_isinstance (by decide +kernel) (pa_cons (pv 0) (pa_cons (pe_glob (v := .ref T.c_Unlike) rfl T.e_Unlike.m rfl) pa_nil))) pa_nil))))))))))), ?_⟩
  walk_at "s"
  refine l_isX ec x (bitK T hc (k := 0) rfl) ?_
  walk_at "s"
  refine l_isX ec x (bitK T hc (k := 1) rfl) ?_
  walk_at "s"
  refine l_isX ec x (bitK T hc (k := 2) rfl) ?_
  walk_at "s"
  refine l_newL (by show 3 ≤ sizeLine; decide) fun p0 G1 n0 s1 e0 => ?_
  walk_at "s"
  refine l_isX ec (x.same s1) (bitK T hc (k := 3) rfl) ?_
  walk_at "s"
  refine l_isX ec (x.same s1) (bitK T hc (k := 4) rfl) ?_
  walk_at "s"
  refine l_isX ec (x.same s1) (bitK T hc (k := 5) rfl) ?_
  walk_at "s"
  refine l_newL (by show 3 ≤ sizeLine; decide) fun q1 J1 m1 t1 f1 => ?_
  walk_at "s"
  refine l_cat (t1 _ _ e0) f1 (by show 6 ≤ sizeLine; decide) fun p1 G2 n1 r2 e1 => ?_
  have s2 := (s1.trans t1).trans r2
  walk_at "s"
  refine l_isX ec (x.same s2) (bitK T hc (k := 6) rfl) ?_
  walk_at "s"
  refine l_isX ec (x.same s2) (bitK T hc (k := 7) rfl) ?_
  walk_at "s"
  refine l_isX ec (x.same s2) (bitK T hc (k := 8) rfl) ?_
  walk_at "s"
  refine l_newL (by show 3 ≤ sizeLine; decide) fun q2 J2 m2 t2 f2 => ?_
  walk_at "s"
  refine l_cat (t2 _ _ e1) f2 (by show 9 ≤ sizeLine; decide) fun p2 G3 n2 r3 e2 => ?_
  have s3 := (s2.trans t2).trans r3
  walk_at "s"
  refine l_isX ec (x.same s3) (bitK T hc (k := 9) rfl) ?_
  walk_at "s"
  refine l_isX ec (x.same s3) (bitK T hc (k := 10) rfl) ?_
  walk_at "s"
  refine l_isX ec (x.same s3) (bitK T hc (k := 11) rfl) ?_
  walk_at "s"
  refine l_newL (by show 3 ≤ sizeLine; decide) fun q3 J3 m3 t3 f3 => ?_
  walk_at "s"
  refine l_cat (t3 _ _ e2) f3 (by show 12 ≤ sizeLine; decide) fun p3 G4 n3 r4 e3 => ?_
  have s4 := (s3.trans t3).trans r4
  walk_at "s"
  refine l_isX ec (x.same s4) (bitK T hc (k := 12) rfl) ?_
  walk_at "s"
  refine l_isX ec (x.same s4) (bitK T hc (k := 13) rfl) ?_
  walk_at "s"
  refine l_isX ec (x.same s4) (bitK T hc (k := 14) rfl) ?_
  walk_at "s"
  refine l_newL (by show 3 ≤ sizeLine; decide) fun q4 J4 m4 t4 f4 => ?_
  walk_at "s"
  refine l_cat (t4 _ _ e3) f4 (by show 15 ≤ sizeLine; decide) fun p4 G5 n4 r5 e4 => ?_
  have s5 := (s4.trans t4).trans r5
  walk_at "s"
  refine l_isX ec (x.same s5) (bitK T hc (k := 15) rfl) ?_
  walk_at "s"
  refine l_newL (by show 1 ≤ sizeLine; decide) fun q5 J5 m5 t5 f5 => ?_
  walk_at "s"
  refine l_cat (t5 _ _ e4) f5 (by show 16 ≤ sizeLine; decide) fun p5 G6 n5 r6 e5 => ?_
  have s6 := (s5.trans t5).trans r6
  walk_at "s"
  exact k p5 G6 (none_of (s5.trans t5) n5) s6 e5
/-- which built-in classes stand above the class j -/
def bitB (j k : Nat) : Bool := if j < 11 then decide (k = 0) else if j = 11 then decide (k = 1) || decide (k = 3) else if j = 12 then decide (k = 2) || decide (k = 3) else if j = 13 then decide (k = 3) else if j = 14 then decide (k = 4) else decide (k = 5)
def bsn : List String := ["ValueError", "KeyError", "IndexError", "LookupError", "OverflowError", "RuntimeError"]
theorem bitBK (T : Txt K mg) {j k : Nat} {c : Addr} {n : String} (hc : (cs T)[j]? = some c) (hd : bsn[k]? = some n) : PySem.W.kitOne K (.ref c) (.type n) = some (bitB j k) := by
  have l : (cs T).length = 16 := rfl
  have l2 : bsn.length = 6 := rfl
  have h1 := (List.getElem?_eq_some_iff.mp hc).1
  have h2 := (List.getElem?_eq_some_iff.mp hd).1
  refine isTab_of (cs := cs T) (ds := bsn.map Value.type) (n := 16) (m := 6) (f := bitB) ?_ (by omega) (by omega) hc (by rw [List.getElem?_map, hd]; rfl)
  exact T.tabB.trans (by decide +kernel)
def sp_bases (T : Txt K mg) : Sp := fun vs H Q _ => ∃ (a c : Addr) (j : Nat) (od : Option Addr) (fs : List (Str × V)), vs = [.ref a] ∧ (cs T)[j]? = some c ∧ XAt H a c od fs ∧
  ∀ p G, H p = none → Same H G → G p = some (.lst ((List.range 6).map fun k => V.bl (bitB j k))) → Q (.ref p) G
theorem ok__law_bases (T : Txt K mg) : FnG prog0 w K mg base CX0 1 T.a__law_bases T.d__law_bases ["e"] (sp_bases T) := by
  refine okG T.F__law_bases sc__law_bases (fun vs H Q E h => ?_) (fun cdv A fs s H vs Q E hr h => ?_)
  · obtain ⟨a, c, j, od, fs, rfl, _⟩ := h
    rfl
  obtain ⟨a, c, j, od, fs, rfl, hc, x, k⟩ := h
  have ec := (ecK T hc).1
  have nd := sc__law_bases.nd
  refine ⟨_, ((pss_cons (ps_set (i := 1) nd rfl (Or.inl rfl) (pe_lst (pa_cons (pe_callB call_isX (by rfl) T.z_isinstance (by decide +kernel) (pa_cons (pv 0) (pa_cons (pe_tyV (n := "ValueError") (by rfl) T.z_ValueError (by decide +kernel)) pa_nil))) (pa_cons (pe_callB call_isX (by rfl) T.z_isinstance (by decide +kernel) (pa_cons (pv 0) (pa_cons (pe_tyV (n := "KeyError") (by rfl) T.z_KeyError (by decide +kernel)) pa_nil))) (pa_cons (pe_callB call_isX (by rfl) T.z_isinstance (by decide +kernel) (pa_cons (pv 0) (pa_cons (pe_tyV (n := "IndexError") (by rfl) T.z_IndexError (by decide +kernel)) pa_nil))) (pa_cons (pe_callB call_isX (by rfl) T.z_isinstance (by decide +kernel) (pa_cons (pv 0) (pa_cons (pe_tyV (n := "LookupError") (by rfl) T.z_LookupError (by decide +kernel)) pa_nil))) pa_nil))))))
  (pss_one (ps_ret (pe_op op_cat (pv 1) (pe_lst (pa_cons (pe_callB call_isX (by rfl) T.z_isinstance (by decide +kernel) (pa_cons (pv 0) (pa_cons (pe_tyV (n := "OverflowError") (by rfl) T.z_OverflowError (by decide +kernel)) pa_nil))) (pa_cons (pe_callB call_isX (by rfl) T.z_isinstance (by decide +kernel) (pa_cons (pv 0) (pa_cons (pe_tyV (n := "RuntimeError") (by rfl) T.z_RuntimeError (by decide +kernel)) pa_nil))) pa_nil)))))))), ?_⟩
  walk_at "s"
  refine l_isXt ec x (bitBK T hc (k := 0) rfl) ?_
  walk_at "s"
  refine l_isXt ec x (bitBK T hc (k := 1) rfl) ?_
  walk_at "s"
  refine l_isXt ec x (bitBK T hc (k := 2) rfl) ?_
  walk_at "s"
  refine l_isXt ec x (bitBK T hc (k := 3) rfl) ?_
  walk_at "s"
  refine l_newL (by show 4 ≤ sizeLine; decide) fun p0 G1 n0 s1 e0 => ?_
  walk_at "s"
  refine l_isXt ec (x.same s1) (bitBK T hc (k := 4) rfl) ?_
  walk_at "s"
  refine l_isXt ec (x.same s1) (bitBK T hc (k := 5) rfl) ?_
  walk_at "s"
  refine l_newL (by show 2 ≤ sizeLine; decide) fun q1 J1 m1 t1 f1 => ?_
  walk_at "s"
  refine l_cat (t1 _ _ e0) f1 (by show 6 ≤ sizeLine; decide) fun p1 G2 n1 r2 e1 => ?_
  walk_at "s"
  exact k p1 G2 (none_of (s1.trans t1) n1) ((s1.trans t1).trans r2) e1
end
section
variable {w : World} {K : PySem.W.Frag} {mg : Str → Option Value} {base : Heap}
theorem exK (T : Txt K mg) {j k : Nat} {c d : Addr} (hc : (cs T)[j]? = some c) (hd : (cs T)[k]? = some d) : PySem.W.exmOne K (.ref c) (.ref d) = some (bit j k) := by
  have l : (cs T).length = 16 := rfl
  have h1 := (List.getElem?_eq_some_iff.mp hc).1
  have h2 := (List.getElem?_eq_some_iff.mp hd).1
  exact exTab_of (T.tabE.trans (by decide +kernel)) (n := 16) (by omega) (by omega) hc hd
theorem ex_nil {c : Addr} : PySem.W.exmAny K (.ref c) [] = some false := rfl
theorem ex_cons (T : Txt K mg) {j k : Nat} {c d : Addr} {r : List Value} {b : Bool} (hc : (cs T)[j]? = some c) (hd : (cs T)[k]? = some d) (h : PySem.W.exmAny K (.ref c) r = some b) : PySem.W.exmAny K (.ref c) (.ref d :: r) = some (bit j k || b) := by
  unfold PySem.W.exmAny
  rw [exK T hc hd, h]
theorem cs_at (T : Txt K mg) {j : Nat} (h : j < 16) : ∃ c, (cs T)[j]? = some c := ⟨_, List.getElem?_eq_getElem (show j < (cs T).length from h)⟩
theorem fls_at {j : Nat} (h : j < 16) : ∃ f, fls[j]? = some f := ⟨_, List.getElem?_eq_getElem (show j < fls.length from h)⟩
def sp_by (K : PySem.W.Frag) : Sp := fun vs H Q _ => ∃ (i : Int) (v : V) (j : Nat), vs = [.int i, v] ∧ Shw K H v ∧ i = (j : Int) ∧ j < 16 ∧ ∀ G, Same H G → Q (.bl (decide (j < 11))) G
theorem ok__law_by_base (T : Txt K mg) : FnG prog0 w K mg base CX0 5 T.a__law_by_base T.d__law_by_base ["kind", "value"] (sp_by K) := by
  have G__law_raise : FnG prog0 w K mg base (L2.CX prog0 w) 4 T.a__law_raise T.d__law_raise ["kind", "value"] (sp_raise T) := ok__law_raise T
  refine okG T.F__law_by_base sc__law_by_base (fun vs H Q E h => ?_) (fun cdv A fs s H vs Q E hr h => ?_)
  · obtain ⟨i, v, j, rfl, _⟩ := h
    rfl
  obtain ⟨i, v, j, rfl, sh, ij, lt, k⟩ := h
  have nd := sc__law_by_base.nd
  refine ⟨_, ((pss_cons (ps_tryX rfl rfl nd tk0 (fun W pn xe tk hpo => (pss_one (ps_expr (pe_callGS G__law_raise (hr.down (by decide)) rfl T.m__law_raise T.F__law_raise.kp T.b__law_raise (fun σ => passAt tk σ) (pa_cons (pv 0) (pa_cons (pv 1) pa_nil))))))
    (by exact (HdsX.only (TestE.one ⟨by rfl, by decide, Or.inl T.e_AheadError.m⟩) (fun a pn => by exact (pss_one (ps_ret pe_bl)))
      (HdsX.only (TestE.tup (.cons ⟨by rfl, by decide, Or.inl T.e_UnknownName.m⟩ (.cons ⟨by rfl, by decide, Or.inl T.e_InvalidNumber.m⟩ (.cons ⟨by rfl, by decide, Or.inl T.e_NothingToUndo.m⟩ (.cons ⟨by rfl, by decide, Or.inl T.e_TooMany.m⟩ (.cons ⟨by rfl, by decide, Or.inl T.e_Unlike.m⟩ .nil))))) (by show 5 ≤ 100; decide)) (fun a pn => by exact (pss_one (ps_ret pe_bl)))
      HdsX.nil))))
  (pss_one (ps_ret pe_non)))), ?_⟩
  walk_at "s"
  refine s_callS ?_
  walk_at "s"
  obtain ⟨c, hc⟩ := cs_at T lt
  obtain ⟨f, hf⟩ := fls_at lt
  have key : ∀ (G : Hp) (d : Option Addr) (W : WX) (D : Ends) (σ : L2.St), Same H G → (∀ b, D.rt b = Q b) → wX K W D [{ cs := [Value.ref T.c_AheadError], slot := none, ts := fun _ _ => tRet (tC (V.bl true)) }, { cs := [Value.ref T.c_UnknownName, Value.ref T.c_InvalidNumber, Value.ref T.c_NothingToUndo, Value.ref T.c_TooMany, Value.ref T.c_Unlike], slot := none, ts := fun _ _ => tRet (tC (V.bl false)) }] (.ref c) d σ G := by
    intro G d W D σ sG hD
    refine ⟨_, ex_cons T hc (k := 0) rfl ex_nil, fun hb a pn na => ?_, fun hb => ?_⟩
    · have l : j < 11 := by
        rw [Bool.or_false] at hb
        simp [bit] at hb
        omega
      have q := k (upd G a (exv a (.ref c) d)) (sG.trans (Same.upd0 na))
      rw [decide_eq_true l] at q
      show D.rt (V.bl true) _
      rw [hD]
      exact q
    · have l : ¬ j < 11 := by
        rw [Bool.or_false] at hb
        simp [bit] at hb
        omega
      refine ⟨_, ex_cons T hc (k := 11) rfl (ex_cons T hc (k := 12) rfl (ex_cons T hc (k := 13) rfl (ex_cons T hc (k := 14) rfl (ex_cons T hc (k := 15) rfl ex_nil)))), fun _ a pn na => ?_, fun hb => ?_⟩
      · have q := k (upd G a (exv a (.ref c) d)) (sG.trans (Same.upd0 na))
        rw [decide_eq_false l] at q
        show D.rt (V.bl false) _
        rw [hD]
        exact q
      · simp [bit] at hb
        omega
  refine ⟨i, v, rfl, sh, j, c, f, ij, hc, hf, fun l => ?_, fun l d n => ?_⟩
  · exact key H none _ _ _ (Same.refl H) fun _ => rfl
  · exact key _ (some d) _ _ _ (Same.upd0 n) fun _ => rfl
end
section
variable {w : World} {K : PySem.W.Frag} {mg : Str → Option Value} {base : Heap}
def sp_first (K : PySem.W.Frag) : Sp := fun vs H Q _ => ∃ (i : Int) (v : V) (j : Nat) (d : PyData), vs = [.int i, v] ∧ Shw K H v ∧ i = (j : Int) ∧ j < 16 ∧ Dp K H v d ∧ SeqAt.shaped d = true ∧ ∀ G, Same H G → Q (.int i) G
theorem wX_no {K : PySem.W.Frag} {Wo : WX} {D : Ends} {h : Hd} {r : List Hd} {cls : Value} {d : Option Addr} {σ : L2.St} {H : Hp} (e : PySem.W.exmAny K cls h.cs = some false) (q : wX K Wo D r cls d σ H) : wX K Wo D (h :: r) cls d σ H :=
  ⟨false, e, fun z => Bool.noConfusion z, fun _ => q⟩
theorem wX_yes {K : PySem.W.Frag} {Wo : WX} {D : Ends} {h : Hd} {r : List Hd} {cls : Value} {d : Option Addr} {σ : L2.St} {H : Hp} (e : PySem.W.exmAny K cls h.cs = some true)
    (q : ∀ a pn, H a = none → h.ts a pn (endsAt h.slot D) (setAt h.slot σ a) (upd H a (exv a cls d))) : wX K Wo D (h :: r) cls d σ H := ⟨true, e, fun _ => q, fun z => Bool.noConfusion z⟩
theorem ex_no {j : Nat} {c : Addr} {l : List Nat} {ds : List Addr} (T : Txt K mg) (hc : (cs T)[j]? = some c) (hl : l.map (fun k => (cs T)[k]?) = ds.map some) : PySem.W.exmAny K (.ref c) (ds.map Value.ref) = some (l.any (bit j)) := by
  induction l generalizing ds with
  | nil =>
    cases ds with
    | nil => rfl
    | cons _ _ => cases hl
  | cons k l ih =>
    cases ds with
    | nil => cases hl
    | cons d ds =>
      injection hl with h1 h2
      exact ex_cons T hc h1 (ih h2)
theorem bits_flat (j : Nat) : (((List.range 16).map fun k => V.bl (bit j k)).all flatV) = true := by
  rw [List.all_map, List.all_eq_true]
  intro k _
  rfl
/-- _law_kinds(e).index(True, 1) -/
theorem l_kidx {T : Txt K mg} {j : Nat} {c a : Addr} {od : Option Addr} {fs : List (Str × V)} {Q : VK} {σ : L2.St} {G : Hp} (h0 : 1 ≤ j) (h1 : j < 16) (hc : (cs T)[j]? = some c) (x : XAt G a c od fs) (hσ : σ[2]? = some (some (.ref a))) (k : ∀ J, Same G J → Q (.int (j : Int)) J) :
    tBM K "list" (rIndex3 K) (tCall (sp_kinds T) [] E0 (tCons (tVar 2) tNil)) (tCons (tC (V.bl true)) (tCons (tC (V.int 1)) tNil)) σ G Q := by
  refine ⟨.ref a, hσ, a, c, j, od, fs, rfl, hc, x, fun p J np s1 ep => ⟨?_, ?_⟩⟩
  · exact Or.inl ⟨rfl, _, SqL.of ep⟩
  · refine ⟨p, _, .bl true, 1, j, .bl (bit j j), rfl, rfl, SqL.of ep, rfl, bits_flat j, h0, ?_, ?_, fun m z hm hj hz => ?_, k J s1⟩
    · rw [List.getElem?_map, List.getElem?_range h1]
      rfl
    · have e : bit j j = true := by simp [bit]
      rw [e]
      rfl
    · rw [List.getElem?_map, List.getElem?_range (by omega)] at hz
      cases hz
      have e : bit j m = false := by
        unfold bit
        rw [decide_eq_false (by omega : ¬ m = j), decide_eq_false (by omega : ¬ m = 0)]
        rfl
      show eqV (V.bl (bit j m)) (V.bl true) = false
      rw [e]
      rfl
/-- n if e.f == value else -1 -/
theorem l_same {D : Ends} {n : Int} {f : Str} {a c d : Addr} {v : V} {pd : PyData} {σ : L2.St} {G : Hp} (x : XAt G a c (some d) [(f, v)]) (xf : XfC K c) (no : PySem.W.findIn K (.ref c) f = some none) (hσ : σ[2]? = some (some (.ref a))) (hv : σ[1]? = some (some v)) (hd : Dp K G v pd) (sd : SeqAt.shaped pd = true) (k : D.rt (.int n) G) :
    tRet (tIf (tTest (tOp (rEqD K) (tXat K f (tVar 2)) (tVar 1))) (tC (V.int n)) (tUn (rU fun i => V.int (-i)) (tC (V.int 1)))) D σ G := by
  have e : PyData.eqv pd pd = true := SeqAt.eqv_refl pd (SeqAt.canLay_of_shaped sd)
  walk_at "s"
  refine ⟨.ref a, hσ, a, c, d, _, v, rfl, x, xf, no, by simp [List.lookup], v, hv, l_eqD hd hd sd sd ?_⟩
  rw [e]
  walk_at "s"
  rw [if_pos rfl]
  exact k
theorem ok__law_first_handler (T : Txt K mg) : FnG prog0 w K mg base CX0 5 T.a__law_first_handler T.d__law_first_handler ["kind", "value"] (sp_first K) := by
  have G__law_raise : FnG prog0 w K mg base (L2.CX prog0 w) 4 T.a__law_raise T.d__law_raise ["kind", "value"] (sp_raise T) := ok__law_raise T
  have G__law_kinds : FnW prog0 w K mg base CX0 1 T.a__law_kinds T.d__law_kinds ["e"] (sp_kinds T) := ok__law_kinds T
  refine okG T.F__law_first_handler sc__law_first_handler (fun vs H Q E h => ?_) (fun cdv A fs s H vs Q E hr h => ?_)
  · obtain ⟨i, v, j, d, rfl, _⟩ := h
    rfl
  obtain ⟨i, v, j, d, rfl, sh, ij, lt, hd, sd, k⟩ := h
  have nd := sc__law_first_handler.nd
  refine ⟨_, ((pss_cons (ps_tryX rfl rfl nd tk0 (fun W pn xe tk hpo => (pss_one (ps_expr (pe_callGS G__law_raise (hr.down (by decide)) rfl T.m__law_raise T.F__law_raise.kp T.b__law_raise (fun σ => passAt tk σ) (pa_cons (pv 0) (pa_cons (pv 1) pa_nil))))))
    (by exact (HdsX.as (TestE.tup (.cons ⟨by rfl, by decide, Or.inl T.e_InvalidProgram.m⟩ (.cons ⟨by rfl, by decide, Or.inl T.e_InvalidSender.m⟩ (.cons ⟨by rfl, by decide, Or.inl T.e_InvalidServer.m⟩ .nil))) (by show 3 ≤ 100; decide)) (i := 2) rfl rfl (fun a pn => by exact (pss_one (ps_ret (by refine' (pe_bm PySem.F.plainAttrs_list PySem.F.slot_list_index PySem.F.type_list_index mt_index3 ?ho ?ha); (case ho => exact (pe_callW G__law_kinds ((RoomW.of (hr.down (by decide))).mark _) rfl T.m__law_kinds T.F__law_kinds.kp T.b__law_kinds .nil pass0 (pa_cons (pv 2) pa_nil))); (case ha => exact (pa_cons pe_bl (pa_cons pe_int pa_nil)))))))
      (HdsX.as (TestE.tup (.cons ⟨by rfl, by decide, Or.inl T.e_InvalidBook.m⟩ (.cons ⟨by rfl, by decide, Or.inl T.e_InvalidItem.m⟩ (.cons ⟨by rfl, by decide, Or.inl T.e_InvalidFacts.m⟩ (.cons ⟨by rfl, by decide, Or.inl T.e_InvalidRow.m⟩ (.cons ⟨by rfl, by decide, Or.inl T.e_InvalidStand.m⟩ .nil))))) (by show 5 ≤ 100; decide)) (i := 2) rfl rfl (fun a pn => by exact (pss_one (ps_ret (by refine' (pe_bm PySem.F.plainAttrs_list PySem.F.slot_list_index PySem.F.type_list_index mt_index3 ?ho ?ha); (case ho => exact (pe_callW G__law_kinds ((RoomW.of (hr.down (by decide))).mark _) rfl T.m__law_kinds T.F__law_kinds.kp T.b__law_kinds .nil pass0 (pa_cons (pv 2) pa_nil))); (case ha => exact (pa_cons pe_bl (pa_cons pe_int pa_nil)))))))
      (HdsX.only (TestE.one ⟨by rfl, by decide, Or.inl T.e_InvalidOperation.m⟩) (fun a pn => by exact (pss_one (ps_ret pe_int)))
      (HdsX.as (TestE.one ⟨by rfl, by decide, Or.inl T.e_ParseError.m⟩) (i := 2) rfl rfl (fun a pn => by exact (pss_one (ps_ret (pe_ifExp (pt_cmpR (op_eqD hr.r.units) (pe_xat (pv 2) rfl) (pv 1) (nomark _)) pe_int (pe_un un_neg pe_int)))))
      (HdsX.as (TestE.one ⟨by rfl, by decide, Or.inl T.e_UnknownName.m⟩) (i := 2) rfl rfl (fun a pn => by exact (pss_one (ps_ret (pe_ifExp (pt_cmpR (op_eqD hr.r.units) (pe_xat (pv 2) rfl) (pv 1) (nomark _)) pe_int (pe_un un_neg pe_int)))))
      (HdsX.as (TestE.one ⟨by rfl, by decide, Or.inl T.e_InvalidNumber.m⟩) (i := 2) rfl rfl (fun a pn => by exact (pss_one (ps_ret (pe_ifExp (pt_cmpR (op_eqD hr.r.units) (pe_xat (pv 2) rfl) (pv 1) (nomark _)) pe_int (pe_un un_neg pe_int)))))
      (HdsX.as (TestE.one ⟨by rfl, by decide, Or.inl T.e_NothingToUndo.m⟩) (i := 2) rfl rfl (fun a pn => by exact (pss_one (ps_ret (pe_ifExp (pt_cmpR (op_eqD hr.r.units) (pe_xat (pv 2) rfl) (pv 1) (nomark _)) pe_int (pe_un un_neg pe_int)))))
      (HdsX.as (TestE.one ⟨by rfl, by decide, Or.inl T.e_TooMany.m⟩) (i := 2) rfl rfl (fun a pn => by exact (pss_one (ps_ret (pe_ifExp (pt_cmpR (op_eqD hr.r.units) (pe_xat (pv 2) rfl) (pv 1) (nomark _)) pe_int (pe_un un_neg pe_int)))))
      (HdsX.as (TestE.one ⟨by rfl, by decide, Or.inl T.e_Unlike.m⟩) (i := 2) rfl rfl (fun a pn => by exact (pss_one (ps_ret (pe_ifExp (pt_cmpR (op_eqD hr.r.units) (pe_xat (pv 2) rfl) (pv 1) (nomark _)) pe_int (pe_un un_neg pe_int)))))
      (HdsX.only (TestE.one ⟨by rfl, by decide, Or.inl T.e_AheadError.m⟩) (fun a pn => by exact (pss_one (ps_ret pe_int)))
      HdsX.nil))))))))))))
  (pss_one (ps_ret (pe_un un_neg pe_int))))), ?_⟩
  walk_at "s"
  refine s_callS ?_
  walk_at "s"
  have jc : j = 0 ∨ j = 1 ∨ j = 2 ∨ j = 3 ∨ j = 4 ∨ j = 5 ∨ j = 6 ∨ j = 7 ∨ j = 8 ∨ j = 9 ∨ j = 10 ∨ j = 11 ∨ j = 12 ∨ j = 13 ∨ j = 14 ∨ j = 15 := by omega
  rcases jc with rfl | rfl | rfl | rfl | rfl | rfl | rfl | rfl | rfl | rfl | rfl | rfl | rfl | rfl | rfl | rfl
  · have hc : (cs T)[0]? = some T.c_AheadError := rfl
    refine ⟨i, v, rfl, sh, 0, T.c_AheadError, _, ij, rfl, rfl, fun l => ?_, fun l => absurd l (by decide)⟩
    show wX _ _ _ _ _ _ _ _
    refine wX_no (ex_no (l := [3, 4, 5]) (ds := [T.c_InvalidProgram, T.c_InvalidSender, T.c_InvalidServer]) T hc rfl) ?_
    refine wX_no (ex_no (l := [1, 2, 6, 7, 8]) (ds := [T.c_InvalidBook, T.c_InvalidItem, T.c_InvalidFacts, T.c_InvalidRow, T.c_InvalidStand]) T hc rfl) ?_
    refine wX_no (ex_no (l := [9]) (ds := [T.c_InvalidOperation]) T hc rfl) ?_
    refine wX_no (ex_no (l := [10]) (ds := [T.c_ParseError]) T hc rfl) ?_
    refine wX_no (ex_no (l := [11]) (ds := [T.c_UnknownName]) T hc rfl) ?_
    refine wX_no (ex_no (l := [12]) (ds := [T.c_InvalidNumber]) T hc rfl) ?_
    refine wX_no (ex_no (l := [13]) (ds := [T.c_NothingToUndo]) T hc rfl) ?_
    refine wX_no (ex_no (l := [14]) (ds := [T.c_TooMany]) T hc rfl) ?_
    refine wX_no (ex_no (l := [15]) (ds := [T.c_Unlike]) T hc rfl) ?_
    refine wX_yes (ex_no (l := [0]) (ds := [T.c_AheadError]) T hc rfl) fun a pn na => ?_
    have q := fun J (s : Same (upd H a (exv a (.ref T.c_AheadError) none)) J) => k J ((Same.upd0 na).trans s)
    rw [ij] at q
    exact q _ (Same.refl _)
  · have hc : (cs T)[1]? = some T.c_InvalidBook := rfl
    refine ⟨i, v, rfl, sh, 1, T.c_InvalidBook, _, ij, rfl, rfl, fun l => ?_, fun l => absurd l (by decide)⟩
    show wX _ _ _ _ _ _ _ _
    refine wX_no (ex_no (l := [3, 4, 5]) (ds := [T.c_InvalidProgram, T.c_InvalidSender, T.c_InvalidServer]) T hc rfl) ?_
    refine wX_yes (ex_no (l := [1, 2, 6, 7, 8]) (ds := [T.c_InvalidBook, T.c_InvalidItem, T.c_InvalidFacts, T.c_InvalidRow, T.c_InvalidStand]) T hc rfl) fun a pn na => ?_
    have q := fun J (s : Same (upd H a (exv a (.ref T.c_InvalidBook) none)) J) => k J ((Same.upd0 na).trans s)
    rw [ij] at q
    exact l_kidx (by decide) (by decide) hc ⟨xin_exv upd_same, rfl⟩ rfl q
  · have hc : (cs T)[2]? = some T.c_InvalidItem := rfl
    refine ⟨i, v, rfl, sh, 2, T.c_InvalidItem, _, ij, rfl, rfl, fun l => ?_, fun l => absurd l (by decide)⟩
    show wX _ _ _ _ _ _ _ _
    refine wX_no (ex_no (l := [3, 4, 5]) (ds := [T.c_InvalidProgram, T.c_InvalidSender, T.c_InvalidServer]) T hc rfl) ?_
    refine wX_yes (ex_no (l := [1, 2, 6, 7, 8]) (ds := [T.c_InvalidBook, T.c_InvalidItem, T.c_InvalidFacts, T.c_InvalidRow, T.c_InvalidStand]) T hc rfl) fun a pn na => ?_
    have q := fun J (s : Same (upd H a (exv a (.ref T.c_InvalidItem) none)) J) => k J ((Same.upd0 na).trans s)
    rw [ij] at q
    exact l_kidx (by decide) (by decide) hc ⟨xin_exv upd_same, rfl⟩ rfl q
  · have hc : (cs T)[3]? = some T.c_InvalidProgram := rfl
    refine ⟨i, v, rfl, sh, 3, T.c_InvalidProgram, _, ij, rfl, rfl, fun l => ?_, fun l => absurd l (by decide)⟩
    show wX _ _ _ _ _ _ _ _
    refine wX_yes (ex_no (l := [3, 4, 5]) (ds := [T.c_InvalidProgram, T.c_InvalidSender, T.c_InvalidServer]) T hc rfl) fun a pn na => ?_
    have q := fun J (s : Same (upd H a (exv a (.ref T.c_InvalidProgram) none)) J) => k J ((Same.upd0 na).trans s)
    rw [ij] at q
    exact l_kidx (by decide) (by decide) hc ⟨xin_exv upd_same, rfl⟩ rfl q
  · have hc : (cs T)[4]? = some T.c_InvalidSender := rfl
    refine ⟨i, v, rfl, sh, 4, T.c_InvalidSender, _, ij, rfl, rfl, fun l => ?_, fun l => absurd l (by decide)⟩
    show wX _ _ _ _ _ _ _ _
    refine wX_yes (ex_no (l := [3, 4, 5]) (ds := [T.c_InvalidProgram, T.c_InvalidSender, T.c_InvalidServer]) T hc rfl) fun a pn na => ?_
    have q := fun J (s : Same (upd H a (exv a (.ref T.c_InvalidSender) none)) J) => k J ((Same.upd0 na).trans s)
    rw [ij] at q
    exact l_kidx (by decide) (by decide) hc ⟨xin_exv upd_same, rfl⟩ rfl q
  · have hc : (cs T)[5]? = some T.c_InvalidServer := rfl
    refine ⟨i, v, rfl, sh, 5, T.c_InvalidServer, _, ij, rfl, rfl, fun l => ?_, fun l => absurd l (by decide)⟩
    show wX _ _ _ _ _ _ _ _
    refine wX_yes (ex_no (l := [3, 4, 5]) (ds := [T.c_InvalidProgram, T.c_InvalidSender, T.c_InvalidServer]) T hc rfl) fun a pn na => ?_
    have q := fun J (s : Same (upd H a (exv a (.ref T.c_InvalidServer) none)) J) => k J ((Same.upd0 na).trans s)
    rw [ij] at q
    exact l_kidx (by decide) (by decide) hc ⟨xin_exv upd_same, rfl⟩ rfl q
  · have hc : (cs T)[6]? = some T.c_InvalidFacts := rfl
    refine ⟨i, v, rfl, sh, 6, T.c_InvalidFacts, _, ij, rfl, rfl, fun l => ?_, fun l => absurd l (by decide)⟩
    show wX _ _ _ _ _ _ _ _
    refine wX_no (ex_no (l := [3, 4, 5]) (ds := [T.c_InvalidProgram, T.c_InvalidSender, T.c_InvalidServer]) T hc rfl) ?_
    refine wX_yes (ex_no (l := [1, 2, 6, 7, 8]) (ds := [T.c_InvalidBook, T.c_InvalidItem, T.c_InvalidFacts, T.c_InvalidRow, T.c_InvalidStand]) T hc rfl) fun a pn na => ?_
    have q := fun J (s : Same (upd H a (exv a (.ref T.c_InvalidFacts) none)) J) => k J ((Same.upd0 na).trans s)
    rw [ij] at q
    exact l_kidx (by decide) (by decide) hc ⟨xin_exv upd_same, rfl⟩ rfl q
  · have hc : (cs T)[7]? = some T.c_InvalidRow := rfl
    refine ⟨i, v, rfl, sh, 7, T.c_InvalidRow, _, ij, rfl, rfl, fun l => ?_, fun l => absurd l (by decide)⟩
    show wX _ _ _ _ _ _ _ _
    refine wX_no (ex_no (l := [3, 4, 5]) (ds := [T.c_InvalidProgram, T.c_InvalidSender, T.c_InvalidServer]) T hc rfl) ?_
    refine wX_yes (ex_no (l := [1, 2, 6, 7, 8]) (ds := [T.c_InvalidBook, T.c_InvalidItem, T.c_InvalidFacts, T.c_InvalidRow, T.c_InvalidStand]) T hc rfl) fun a pn na => ?_
    have q := fun J (s : Same (upd H a (exv a (.ref T.c_InvalidRow) none)) J) => k J ((Same.upd0 na).trans s)
    rw [ij] at q
    exact l_kidx (by decide) (by decide) hc ⟨xin_exv upd_same, rfl⟩ rfl q
  · have hc : (cs T)[8]? = some T.c_InvalidStand := rfl
    refine ⟨i, v, rfl, sh, 8, T.c_InvalidStand, _, ij, rfl, rfl, fun l => ?_, fun l => absurd l (by decide)⟩
    show wX _ _ _ _ _ _ _ _
    refine wX_no (ex_no (l := [3, 4, 5]) (ds := [T.c_InvalidProgram, T.c_InvalidSender, T.c_InvalidServer]) T hc rfl) ?_
    refine wX_yes (ex_no (l := [1, 2, 6, 7, 8]) (ds := [T.c_InvalidBook, T.c_InvalidItem, T.c_InvalidFacts, T.c_InvalidRow, T.c_InvalidStand]) T hc rfl) fun a pn na => ?_
    have q := fun J (s : Same (upd H a (exv a (.ref T.c_InvalidStand) none)) J) => k J ((Same.upd0 na).trans s)
    rw [ij] at q
    exact l_kidx (by decide) (by decide) hc ⟨xin_exv upd_same, rfl⟩ rfl q
  · have hc : (cs T)[9]? = some T.c_InvalidOperation := rfl
    refine ⟨i, v, rfl, sh, 9, T.c_InvalidOperation, _, ij, rfl, rfl, fun l => ?_, fun l => absurd l (by decide)⟩
    show wX _ _ _ _ _ _ _ _
    refine wX_no (ex_no (l := [3, 4, 5]) (ds := [T.c_InvalidProgram, T.c_InvalidSender, T.c_InvalidServer]) T hc rfl) ?_
    refine wX_no (ex_no (l := [1, 2, 6, 7, 8]) (ds := [T.c_InvalidBook, T.c_InvalidItem, T.c_InvalidFacts, T.c_InvalidRow, T.c_InvalidStand]) T hc rfl) ?_
    refine wX_yes (ex_no (l := [9]) (ds := [T.c_InvalidOperation]) T hc rfl) fun a pn na => ?_
    have q := fun J (s : Same (upd H a (exv a (.ref T.c_InvalidOperation) none)) J) => k J ((Same.upd0 na).trans s)
    rw [ij] at q
    exact q _ (Same.refl _)
  · have hc : (cs T)[10]? = some T.c_ParseError := rfl
    refine ⟨i, v, rfl, sh, 10, T.c_ParseError, "number", ij, rfl, rfl, fun l => absurd l (by decide), fun l dd n => ?_⟩
    show wX _ _ _ _ _ _ _ _
    refine wX_no (ex_no (l := [3, 4, 5]) (ds := [T.c_InvalidProgram, T.c_InvalidSender, T.c_InvalidServer]) T hc rfl) ?_
    refine wX_no (ex_no (l := [1, 2, 6, 7, 8]) (ds := [T.c_InvalidBook, T.c_InvalidItem, T.c_InvalidFacts, T.c_InvalidRow, T.c_InvalidStand]) T hc rfl) ?_
    refine wX_no (ex_no (l := [9]) (ds := [T.c_InvalidOperation]) T hc rfl) ?_
    refine wX_yes (ex_no (l := [10]) (ds := [T.c_ParseError]) T hc rfl) fun a pn na => ?_
    have ne : dd ≠ a := fun z => by
      rw [z, upd_same] at na
      cases na
    have s0 : Same H (upd (upd H dd (.xd [("number", v)])) a (exv a (.ref T.c_ParseError) (some dd))) := (Same.upd0 n).trans (Same.upd0 na)
    have q := k _ s0
    rw [ij] at q
    exact l_same (a := a) (c := T.c_ParseError) (d := dd) ⟨xin_exv upd_same, Or.inr (by rw [upd_ne ne, upd_same])⟩ (ecK T hc).2 T.e_ParseError.no rfl rfl (dp_same s0 hd) sd q
  · have hc : (cs T)[11]? = some T.c_UnknownName := rfl
    refine ⟨i, v, rfl, sh, 11, T.c_UnknownName, "name", ij, rfl, rfl, fun l => absurd l (by decide), fun l dd n => ?_⟩
    show wX _ _ _ _ _ _ _ _
    refine wX_no (ex_no (l := [3, 4, 5]) (ds := [T.c_InvalidProgram, T.c_InvalidSender, T.c_InvalidServer]) T hc rfl) ?_
    refine wX_no (ex_no (l := [1, 2, 6, 7, 8]) (ds := [T.c_InvalidBook, T.c_InvalidItem, T.c_InvalidFacts, T.c_InvalidRow, T.c_InvalidStand]) T hc rfl) ?_
    refine wX_no (ex_no (l := [9]) (ds := [T.c_InvalidOperation]) T hc rfl) ?_
    refine wX_no (ex_no (l := [10]) (ds := [T.c_ParseError]) T hc rfl) ?_
    refine wX_yes (ex_no (l := [11]) (ds := [T.c_UnknownName]) T hc rfl) fun a pn na => ?_
    have ne : dd ≠ a := fun z => by
      rw [z, upd_same] at na
      cases na
    have s0 : Same H (upd (upd H dd (.xd [("name", v)])) a (exv a (.ref T.c_UnknownName) (some dd))) := (Same.upd0 n).trans (Same.upd0 na)
    have q := k _ s0
    rw [ij] at q
    exact l_same (a := a) (c := T.c_UnknownName) (d := dd) ⟨xin_exv upd_same, Or.inr (by rw [upd_ne ne, upd_same])⟩ (ecK T hc).2 T.e_UnknownName.no rfl rfl (dp_same s0 hd) sd q
  · have hc : (cs T)[12]? = some T.c_InvalidNumber := rfl
    refine ⟨i, v, rfl, sh, 12, T.c_InvalidNumber, "value", ij, rfl, rfl, fun l => absurd l (by decide), fun l dd n => ?_⟩
    show wX _ _ _ _ _ _ _ _
    refine wX_no (ex_no (l := [3, 4, 5]) (ds := [T.c_InvalidProgram, T.c_InvalidSender, T.c_InvalidServer]) T hc rfl) ?_
    refine wX_no (ex_no (l := [1, 2, 6, 7, 8]) (ds := [T.c_InvalidBook, T.c_InvalidItem, T.c_InvalidFacts, T.c_InvalidRow, T.c_InvalidStand]) T hc rfl) ?_
    refine wX_no (ex_no (l := [9]) (ds := [T.c_InvalidOperation]) T hc rfl) ?_
    refine wX_no (ex_no (l := [10]) (ds := [T.c_ParseError]) T hc rfl) ?_
    refine wX_no (ex_no (l := [11]) (ds := [T.c_UnknownName]) T hc rfl) ?_
    refine wX_yes (ex_no (l := [12]) (ds := [T.c_InvalidNumber]) T hc rfl) fun a pn na => ?_
    have ne : dd ≠ a := fun z => by
      rw [z, upd_same] at na
      cases na
    have s0 : Same H (upd (upd H dd (.xd [("value", v)])) a (exv a (.ref T.c_InvalidNumber) (some dd))) := (Same.upd0 n).trans (Same.upd0 na)
    have q := k _ s0
    rw [ij] at q
    exact l_same (a := a) (c := T.c_InvalidNumber) (d := dd) ⟨xin_exv upd_same, Or.inr (by rw [upd_ne ne, upd_same])⟩ (ecK T hc).2 T.e_InvalidNumber.no rfl rfl (dp_same s0 hd) sd q
  · have hc : (cs T)[13]? = some T.c_NothingToUndo := rfl
    refine ⟨i, v, rfl, sh, 13, T.c_NothingToUndo, "many", ij, rfl, rfl, fun l => absurd l (by decide), fun l dd n => ?_⟩
    show wX _ _ _ _ _ _ _ _
    refine wX_no (ex_no (l := [3, 4, 5]) (ds := [T.c_InvalidProgram, T.c_InvalidSender, T.c_InvalidServer]) T hc rfl) ?_
    refine wX_no (ex_no (l := [1, 2, 6, 7, 8]) (ds := [T.c_InvalidBook, T.c_InvalidItem, T.c_InvalidFacts, T.c_InvalidRow, T.c_InvalidStand]) T hc rfl) ?_
    refine wX_no (ex_no (l := [9]) (ds := [T.c_InvalidOperation]) T hc rfl) ?_
    refine wX_no (ex_no (l := [10]) (ds := [T.c_ParseError]) T hc rfl) ?_
    refine wX_no (ex_no (l := [11]) (ds := [T.c_UnknownName]) T hc rfl) ?_
    refine wX_no (ex_no (l := [12]) (ds := [T.c_InvalidNumber]) T hc rfl) ?_
    refine wX_yes (ex_no (l := [13]) (ds := [T.c_NothingToUndo]) T hc rfl) fun a pn na => ?_
    have ne : dd ≠ a := fun z => by
      rw [z, upd_same] at na
      cases na
    have s0 : Same H (upd (upd H dd (.xd [("many", v)])) a (exv a (.ref T.c_NothingToUndo) (some dd))) := (Same.upd0 n).trans (Same.upd0 na)
    have q := k _ s0
    rw [ij] at q
    exact l_same (a := a) (c := T.c_NothingToUndo) (d := dd) ⟨xin_exv upd_same, Or.inr (by rw [upd_ne ne, upd_same])⟩ (ecK T hc).2 T.e_NothingToUndo.no rfl rfl (dp_same s0 hd) sd q
  · have hc : (cs T)[14]? = some T.c_TooMany := rfl
    refine ⟨i, v, rfl, sh, 14, T.c_TooMany, "limit", ij, rfl, rfl, fun l => absurd l (by decide), fun l dd n => ?_⟩
    show wX _ _ _ _ _ _ _ _
    refine wX_no (ex_no (l := [3, 4, 5]) (ds := [T.c_InvalidProgram, T.c_InvalidSender, T.c_InvalidServer]) T hc rfl) ?_
    refine wX_no (ex_no (l := [1, 2, 6, 7, 8]) (ds := [T.c_InvalidBook, T.c_InvalidItem, T.c_InvalidFacts, T.c_InvalidRow, T.c_InvalidStand]) T hc rfl) ?_
    refine wX_no (ex_no (l := [9]) (ds := [T.c_InvalidOperation]) T hc rfl) ?_
    refine wX_no (ex_no (l := [10]) (ds := [T.c_ParseError]) T hc rfl) ?_
    refine wX_no (ex_no (l := [11]) (ds := [T.c_UnknownName]) T hc rfl) ?_
    refine wX_no (ex_no (l := [12]) (ds := [T.c_InvalidNumber]) T hc rfl) ?_
    refine wX_no (ex_no (l := [13]) (ds := [T.c_NothingToUndo]) T hc rfl) ?_
    refine wX_yes (ex_no (l := [14]) (ds := [T.c_TooMany]) T hc rfl) fun a pn na => ?_
    have ne : dd ≠ a := fun z => by
      rw [z, upd_same] at na
      cases na
    have s0 : Same H (upd (upd H dd (.xd [("limit", v)])) a (exv a (.ref T.c_TooMany) (some dd))) := (Same.upd0 n).trans (Same.upd0 na)
    have q := k _ s0
    rw [ij] at q
    exact l_same (a := a) (c := T.c_TooMany) (d := dd) ⟨xin_exv upd_same, Or.inr (by rw [upd_ne ne, upd_same])⟩ (ecK T hc).2 T.e_TooMany.no rfl rfl (dp_same s0 hd) sd q
  · have hc : (cs T)[15]? = some T.c_Unlike := rfl
    refine ⟨i, v, rfl, sh, 15, T.c_Unlike, "row", ij, rfl, rfl, fun l => absurd l (by decide), fun l dd n => ?_⟩
    show wX _ _ _ _ _ _ _ _
    refine wX_no (ex_no (l := [3, 4, 5]) (ds := [T.c_InvalidProgram, T.c_InvalidSender, T.c_InvalidServer]) T hc rfl) ?_
    refine wX_no (ex_no (l := [1, 2, 6, 7, 8]) (ds := [T.c_InvalidBook, T.c_InvalidItem, T.c_InvalidFacts, T.c_InvalidRow, T.c_InvalidStand]) T hc rfl) ?_
    refine wX_no (ex_no (l := [9]) (ds := [T.c_InvalidOperation]) T hc rfl) ?_
    refine wX_no (ex_no (l := [10]) (ds := [T.c_ParseError]) T hc rfl) ?_
    refine wX_no (ex_no (l := [11]) (ds := [T.c_UnknownName]) T hc rfl) ?_
    refine wX_no (ex_no (l := [12]) (ds := [T.c_InvalidNumber]) T hc rfl) ?_
    refine wX_no (ex_no (l := [13]) (ds := [T.c_NothingToUndo]) T hc rfl) ?_
    refine wX_no (ex_no (l := [14]) (ds := [T.c_TooMany]) T hc rfl) ?_
    refine wX_yes (ex_no (l := [15]) (ds := [T.c_Unlike]) T hc rfl) fun a pn na => ?_
    have ne : dd ≠ a := fun z => by
      rw [z, upd_same] at na
      cases na
    have s0 : Same H (upd (upd H dd (.xd [("row", v)])) a (exv a (.ref T.c_Unlike) (some dd))) := (Same.upd0 n).trans (Same.upd0 na)
    have q := k _ s0
    rw [ij] at q
    exact l_same (a := a) (c := T.c_Unlike) (d := dd) ⟨xin_exv upd_same, Or.inr (by rw [upd_ne ne, upd_same])⟩ (ecK T hc).2 T.e_Unlike.no rfl rfl (dp_same s0 hd) sd q
end
section
variable {P : Program} {w : World} {K : PySem.W.Frag} {mg : Str → Option Value} {base : Heap}
/-! ### drawn names -/
def abcN : Str := "abcdefghijklmnopqrstuvwxyz"
def resN : List Str := ["failed", "kept", "skipped", "undone"]
/-- a text of small letters, 1 to 8 -/
def NameOk (y : Str) : Prop := 1 ≤ y.length ∧ y.length ≤ 8 ∧ ∀ c ∈ y.cps.toList, 97 ≤ c ∧ c ≤ 122
instance {y : Str} : Decidable (NameOk y) := inferInstanceAs (Decidable (1 ≤ y.length ∧ y.length ≤ 8 ∧ ∀ c ∈ y.cps.toList, 97 ≤ c ∧ c ≤ 122))
def sp__law_name (K : PySem.W.Frag) : Sp := fun vs H Q _ => ∃ (d t : Addr) (ys : List Str), vs = [.ref d, .ref t] ∧ DiceAt H d ∧ SqL K H t (ys.map V.str) ∧ t ≠ d ∧ ys.length ≤ 20 ∧
  ∀ y G, NameOk y → y ∉ ys → y ∉ resN → Dc d H G → Q (.str y) G
theorem pigeon : ∀ (ys l : List Str), l.Nodup → ys.length < l.length → ∃ x ∈ l, x ∉ ys
  | [], x :: l, _, _ => ⟨x, List.mem_cons_self, nofun⟩
  | [], [], _, h => absurd h (by decide)
  | y :: ys, l, nd, h => by
    have len : ys.length < (l.erase y).length := by
      have := List.length_erase (a := y) (l := l)
      rw [this]
      rw [List.length_cons] at h
      split <;> omega
    obtain ⟨x, hx, hn⟩ := pigeon ys (l.erase y) (nd.erase y) len
    rw [nd.mem_erase_iff] at hx
    refine ⟨x, hx.2, fun z => ?_⟩
    rcases List.mem_cons.mp z with e | e
    · exact hx.1 e
    · exact hn e
def qN : List Str := abcN.cps.toList.map fun c => ("q" : Str) ++ (⟨#[c]⟩ : Str)
theorem qN_nodup : qN.Nodup := by decide +kernel
theorem qN_len : qN.length = 26 := by decide +kernel
theorem qN_ok : ∀ y ∈ qN, NameOk y ∧ y ∉ resN := by decide +kernel
theorem in_strs (ys : List Str) (s : Str) : inV (.str s) (ys.map V.str) = ys.any fun y => y == s := by
  unfold inV
  rw [List.any_map]
  rfl
theorem strs_flat (l : List Str) : (l.map V.str).all flatV = true := by
  rw [List.all_map, List.all_eq_true]
  intro _ _
  rfl
theorem l_ninL {p : Addr} {ys : List Str} {s : Str} {H : Hp} {Q : VK} (h : SqL K H p (ys.map V.str) ∨ SqT K H p (ys.map V.str)) (q : Q (.bl (!(ys.any fun y => y == s))) H) : rIn K true (.str s) (.ref p) H Q :=
  ⟨p, _, rfl, h, rfl, strs_flat _, by rw [if_pos rfl, in_strs]; exact q⟩
theorem any_mem {ys : List Str} {s : Str} : (!(ys.any fun y => y == s)) = decide (s ∉ ys) := by
  by_cases h : s ∈ ys
  · have e : (ys.any fun y => y == s) = true := List.any_eq_true.mpr ⟨s, h, by simp⟩
    rw [e, decide_eq_false (fun n => n h)]
    rfl
  · have e : (ys.any fun y => y == s) = false := by
      rw [List.any_eq_false]
      intro y hy z
      have : y = s := by simpa using z
      exact h (this ▸ hy)
    rw [e, decide_eq_true h]
    rfl
def freeB (ys : List Str) : V → Bool := fun v => match v with
  | .str s => !(ys.any fun y => y == s) && !(resN.any fun y => y == s)
  | _ => false
def qOf : V → V := fun v => match v with
  | .str s => .str (("q" : Str) ++ s)
  | x => x
theorem abc_at {r : Int} (h0 : 0 ≤ r) (h1 : r < 26) : ∃ c, atI abcN.cps.toList r = some c ∧ 97 ≤ c ∧ c ≤ 122 := by
  have all : ∀ k : Fin 26, ∃ c, abcN.cps.toList[k.val]? = some c ∧ 97 ≤ c ∧ c ≤ 122 := by
    intro k
    have h : ∀ k : Fin 26, abcN.cps.toList[k.val]? = some (k.val + 97) := by decide +kernel
    exact ⟨_, h k, by omega, by have := k.isLt; omega⟩
  obtain ⟨c, hc, h2⟩ := all ⟨r.toNat, by omega⟩
  refine ⟨c, ?_, h2⟩
  have e : atI abcN.cps.toList ((r.toNat : Nat) : Int) = some c := atI_nat hc
  rwa [Int.toNat_of_nonneg h0] at e
theorem name_app {n : Nat} {z : Str} {c : Nat} (h : z.length = n ∧ ∀ c ∈ z.cps.toList, 97 ≤ c ∧ c ≤ 122) (hc : 97 ≤ c ∧ c ≤ 122) : (z ++ (⟨#[c]⟩ : Str)).length = n + 1 ∧ ∀ x ∈ (z ++ (⟨#[c]⟩ : Str)).cps.toList, 97 ≤ x ∧ x ≤ 122 := by
  refine ⟨?_, fun x hx => ?_⟩
  · rw [append_len, h.1]
    rfl
  · rcases append_mem hx with q | q
    · exact h.2 x q
    · have e : x = c := by simpa using q
      rw [e]
      exact hc
theorem ok__law_name (T : Txt K mg) : FnG P w K mg base CX0 3 T.a__law_name T.d__law_name ["dice", "taken"] (sp__law_name K) := by
  have G__law_roll : FnG P w K mg base CX0 1 T.a__law_roll T.d__law_roll ["dice", "total"] sp__law_roll := ok__law_roll T
  have G__law_one_of : FnG P w K mg base CX0 2 T.a__law_one_of T.d__law_one_of ["dice", "items"] (sp__law_one_of K) := ok__law_one_of T
  have HP := @PassesOwn.never
  refine okG T.F__law_name sc__law_name (fun vs H Q E h => ?_) (fun cdv A fs s H vs Q E hr h => ?_)
  · obtain ⟨d, t, ys, rfl, _⟩ := h
    rfl
  obtain ⟨d, t, ys, rfl, hd, ht, ne, hz, k⟩ := h
  have nd := sc__law_name.nd
  refine ⟨_, ((pss_cons (ps_asg (pe_tup (pa_cons pe_str (pa_cons pe_str pa_nil))) (pg_tup (by rfl) (pgs_cons (pg_name (i := 2) nd rfl (Or.inl rfl)) (pgs_cons (pg_name (i := 3) nd rfl (Or.inl rfl)) pgs_nil))))
  (pss_cons (ps_for HP rfl (pi_range1 rfl T.z_range (pa_cons (pe_callG G__law_one_of (hr.down (by decide)) rfl T.m__law_one_of T.F__law_one_of.kp T.b__law_one_of .nil pass0 (pa_cons (pv 0) (pa_cons (pe_lst (pa_consts (by rfl))) pa_nil))) pa_nil)) (pg_name (i := 4) nd rfl (Or.inl rfl)) (pss_one (ps_set (i := 3) nd rfl (Or.inl rfl) (pe_op o_addS (pv 3) (pe_ix ix_str (pv 2) (pe_callG G__law_roll (hr.down (by decide)) rfl T.m__law_roll T.F__law_roll.kp T.b__law_roll .nil pass0 (pa_cons (pv 0) (pa_cons pe_int pa_nil))) (fun _ _ => rfl))))))
  (pss_cons (ps_set (i := 5) nd rfl (Or.inl rfl) (pe_op op_cat (pe_lst (pa_cons (pv 3) pa_nil)) (pe_lc (own := [("letter", 6)]) rfl nd (pi_str (pv 2)) (blkOk_by (own := [("letter", 6)]) (N := ["dice", "taken", "letters", "word", "turn", "spare", "letter", "one"]) (sc := defScope s__law_name) (by decide +kernel)) (fun _ _ _ _ _ => pg_name (i := 6) nd rfl (Or.inl rfl)) (fun _ _ _ _ _ => pts_nil) (fun _ _ _ _ _ => (pe_op o_addS pe_str (pv 6))))))
  (pss_one (ps_ret (pe_ix ix_list (pe_lc (own := [("one", 7)]) rfl nd (pi_list (pv 5)) (blkOk_by (own := [("one", 7)]) (N := ["dice", "taken", "letters", "word", "turn", "spare", "letter", "one"]) (sc := defScope s__law_name) (by decide +kernel)) (fun _ _ _ _ _ => pg_name (i := 7) nd rfl (Or.inl rfl)) (fun _ _ _ _ _ => (pts_one (PW.pt (pw_and (pt_cmpR (show OpR _ _ (rIn K true) from op_notIn_seq) (pv 7) (pv 1) (by rfl)) (pw_and1 (pt_cmpR (show OpR _ _ (rIn K true) from op_notIn_seq) (pv 7) (pe_tup (pa_consts (by rfl))) (by rfl))))))) (fun _ _ _ _ _ => (pv 7))) pe_int (fun _ _ => rfl)))))))), ?_⟩
  walk_at "s"
  refine l_newT (by show 2 ≤ sizeLine; decide) fun p9 G9 np9 sp9 ep9 => ?_
  walk_at "s"
  refine l_gtup (SqT.of ep9) rfl ?_
  walk_at "s"
  refine l_newL (by show 7 ≤ sizeLine; decide) fun p G0 np sp ep => ?_
  have dc9 := (Dc.refl hd).same sp9
  have dc0 := dc9.same sp
  have nep : p ≠ d := fun e => (dc9.dice.ne np) e.symm
  refine ⟨d, p, _, rfl, dc0.dice, SqL.of ep, nep, by show 0 < 7; decide, by show 7 < 1000000; decide, fun x G1 hx dc1 => ?_⟩
  have dc1' := dc0.trans dc1
  obtain ⟨n, rfl, n1, n2⟩ : ∃ n : Nat, x = .int (n : Int) ∧ 1 ≤ n ∧ n ≤ 8 := by
    have h : ∀ x ∈ ([.int 1, .int 1, .int 2, .int 3, .int 4, .int 6, .int 8] : List V), ∃ n : Nat, x = .int (n : Int) ∧ 1 ≤ n ∧ n ≤ 8 := by
      intro x hx
      simp only [List.mem_cons, List.not_mem_nil, or_false] at hx
      rcases hx with rfl | rfl | rfl | rfl | rfl | rfl | rfl
      · exact ⟨1, rfl, by decide, by decide⟩
      · exact ⟨1, rfl, by decide, by decide⟩
      · exact ⟨2, rfl, by decide, by decide⟩
      · exact ⟨3, rfl, by decide, by decide⟩
      · exact ⟨4, rfl, by decide, by decide⟩
      · exact ⟨6, rfl, by decide, by decide⟩
      · exact ⟨8, rfl, by decide, by decide⟩
    exact h x hx
  have sg : abcN.length ≤ sizeLine := by rw [sizeLine_eq]; decide +kernel
  refine l_forR (by omega) (by omega) (fun i σ G => ∃ (z : Str) (u : Option V), σ = [some (.ref d), some (.ref t), some (.str abcN), some (.str z), u, none, none, none] ∧ (z.length = i ∧ ∀ c ∈ z.cps.toList, 97 ≤ c ∧ c ≤ 122) ∧ Dc d H G) ⟨_, _, rfl, ⟨rfl, fun c hc => nomatch hc⟩, dc1'⟩ ?_ ?_
  · rintro i σ G hi ⟨z, u, rfl, hz, dc⟩
    have hz2 : z.length + 1 ≤ sizeLine := by rw [sizeLine_eq, hz.1]; omega
    walk_at "s"
    refine ⟨d, 26, rfl, dc.dice, by decide, by decide, fun r G2 r0 r1 dc2 => ?_⟩
    obtain ⟨c, hc, hc2⟩ := abc_at r0 r1
    refine l_ixS sg hc ?_
    refine l_addS hz2 ?_
    walk_at "s"
    exact ⟨_, _, rfl, name_app hz hc2, dc.trans dc2⟩
  · rintro σ G ⟨z, u, rfl, hz0, dc⟩
    have zl : z.length = n := by have := hz0.1; omega
    have zok : NameOk z := ⟨by omega, by omega, hz0.2⟩
    walk_at "s"
    refine l_newL (by show 1 ≤ sizeLine; decide) fun p1 J1 np1 s1 e1 => ?_
    walk_at "s"
    refine l_lcS (fun _ => true) qOf (by decide +kernel) (fun c _ G' _ R r => ?_) (fun c hc _ G' _ R r => ?_) (fun D J2 _ s2 e2 => ?_)
    · exact s_yes (r G' (Same.refl G'))
    · exact s_op (s_c (s_var rfl (l_addS (by show 1 + 1 ≤ sizeLine; decide) (r G' (Same.refl G')))))
    · have eq1 : (((abcN.cps.toList.map signV).filter fun _ => true).map qOf) = qN.map V.str := by
        rw [List.filter_eq_self.mpr (fun _ _ => rfl), List.map_map]
        unfold qN
        rw [List.map_map]
        rfl
      have e2' : J2 D = some (.lst (qN.map V.str)) := e2.trans (congrArg (fun l => some (HO.lst l)) eq1)
      refine l_cat (s2 _ _ e1) e2' (by rw [List.length_map, qN_len, sizeLine_eq]; show 1 + 26 ≤ _; decide) fun p2 J3 np2 s3 e3 => ?_
      have e3' : J3 p2 = some (.lst ((z :: qN).map V.str)) := e3
      have dc3 := ((dc.same s1).same s2).same s3
      walk_at "s"
      have st : ∀ J, Same J3 J → SqL K J t (ys.map V.str) := fun J sJ => sJ.seq (sql_keep dc3.keep ne ht)
      refine l_lcL (SqL.of e3') (freeB ys) (fun v => v) (by rw [List.length_map, List.length_cons, qN_len]; decide) (fun x hx G' sG R r => ?_) (fun x hx _ G' _ R r => ?_) (fun D2 J4 _ s4 e4 => ?_)
      · obtain ⟨y, _, rfl⟩ := List.mem_map.mp hx
        refine s_and (s_test (s_op (s_var rfl (s_var rfl (l_ninL (Or.inl (st G' sG)) ?_)))))
        refine l_bl (i_b (fun e => ?_) (fun e => ?_))
        · refine s_test (s_op (s_var rfl (s_tup (s_consts ?_))))
          refine l_newT (by show 4 ≤ sizeLine; decide) fun p5 G5 np5 sp5 ep5 => ?_
          refine l_ninL (ys := resN) (Or.inr (SqT.of ep5)) ?_
          have q : freeB ys (.str y) = !(resN.any fun x => x == y) := by
            show (!(ys.any fun x => x == y) && _) = _
            rw [e, Bool.true_and]
          rw [q] at r
          exact l_bl (r G5 sp5)
        · have q : freeB ys (.str y) = false := by
            show (!(ys.any fun x => x == y) && _) = false
            rw [e]
            rfl
          rw [q] at r
          exact r G' (Same.refl G')
      · exact s_var rfl (r G' (Same.refl G'))
      · have eq2 : (((z :: qN).map V.str).filter (freeB ys)).map (fun v => v) = ((z :: qN).filter fun s => freeB ys (.str s)).map V.str := by
          rw [List.map_id', List.filter_map]
          rfl
        have e4' : J4 D2 = some (.lst (((z :: qN).filter fun s => freeB ys (.str s)).map V.str)) := e4.trans (congrArg (fun l => some (HO.lst l)) eq2)
        have free_iff : ∀ s : Str, freeB ys (.str s) = true ↔ s ∉ ys ∧ s ∉ resN := by
          intro s
          show (!(ys.any fun y => y == s) && !(resN.any fun y => y == s)) = true ↔ _
          rw [any_mem, any_mem, Bool.and_eq_true, decide_eq_true_eq, decide_eq_true_eq]
        obtain ⟨x, hx, hn⟩ := pigeon ys qN qN_nodup (by rw [qN_len]; omega)
        have mem : x ∈ (z :: qN).filter fun s => freeB ys (.str s) := List.mem_filter.mpr ⟨List.mem_cons_of_mem _ hx, (free_iff x).mpr ⟨hn, (qN_ok x hx).2⟩⟩
        cases hF : (z :: qN).filter fun s => freeB ys (.str s) with
        | nil =>
          rw [hF] at mem
          cases mem
        | cons y rest =>
          have hy : y ∈ (z :: qN).filter fun s => freeB ys (.str s) := by rw [hF]; exact List.mem_cons_self
          obtain ⟨hy1, hy2⟩ := List.mem_filter.mp hy
          obtain ⟨m1, m2⟩ := (free_iff y).mp hy2
          rw [hF] at e4'
          refine s_c (l_ixL (SqL.of e4') (i := 0) (v := .str y) (by show atI _ ((0 : Nat) : Int) = _; exact atI_nat rfl) ?_)
          refine k y J4 ?_ m1 m2 (dc3.same s4)
          rcases List.mem_cons.mp hy1 with e | e
          · rw [e]
            exact zok
          · exact (qN_ok y e).1
/-! ### rows of such names -/
def sp__law_names : Sp := fun vs H Q _ => ∃ (d : Addr) (n : Nat), vs = [.ref d, .int (n : Int)] ∧ DiceAt H d ∧ n ≤ 20 ∧
  ∀ (p : Addr) (G : Hp) (ys : List Str), ys.length = n → (∀ y ∈ ys, NameOk y ∧ y ∉ resN) → ys.Nodup → H p = none → G p = some (.lst (ys.map V.str)) → Dc d H G → Q (.ref p) G
theorem ok__law_names (T : Txt K mg) : FnG P w K mg base CX0 4 T.a__law_names T.d__law_names ["dice", "size"] sp__law_names := by
  have G__law_name : FnG P w K mg base CX0 3 T.a__law_name T.d__law_name ["dice", "taken"] (sp__law_name K) := ok__law_name T
  have HP := @PassesOwn.never
  refine okG T.F__law_names sc__law_names (fun vs H Q E h => ?_) (fun cdv A fs s H vs Q E hr h => ?_)
  · obtain ⟨d, n, rfl, _⟩ := h
    rfl
  obtain ⟨d, n, rfl, hd, hn, k⟩ := h
  have nd := sc__law_names.nd
  refine ⟨_, ((pss_cons (ps_set (i := 2) nd rfl (Or.inl rfl) (pe_lst pa_nil))
  (pss_cons (ps_for HP rfl (pi_range1 rfl T.z_range (pa_cons (pv 1) pa_nil)) (pg_name (i := 3) nd rfl (Or.inl rfl)) (pss_one (ps_expr (pe_bm PySem.F.plainAttrs_list PySem.F.slot_list_append PySem.F.type_list_append mt_append (pv 2) (pa_cons (pe_callG G__law_name (hr.down (by decide)) rfl T.m__law_name T.F__law_name.kp T.b__law_name .nil pass0 (pa_cons (pv 0) (pa_cons (pv 2) pa_nil))) pa_nil)))))
  (pss_one (ps_ret (pv 2)))))), ?_⟩
  walk_at "s"
  refine l_newL (by show 0 ≤ sizeLine; decide) fun p G0 np sp ep => ?_
  have dc0 := (Dc.refl hd).same sp
  have nep : p ≠ d := fun e => (hd.ne np) e.symm
  walk_at "s"
  refine l_forR (by omega) (by omega) (fun i σ G => ∃ (ys : List Str) (u : Option V), σ = [some (.ref d), some (.int (n : Int)), some (.ref p), u] ∧ ys.length = i ∧ (∀ y ∈ ys, NameOk y ∧ y ∉ resN) ∧ ys.Nodup ∧ G p = some (.lst (ys.map V.str)) ∧ Dc d H G) ⟨[], _, rfl, rfl, nofun, List.nodup_nil, ep, dc0⟩ ?_ ?_
  · rintro i σ G hi ⟨ys, u, rfl, hl, hok, hnd, hp, dc⟩
    walk_at "s"
    refine ⟨.ref p, rfl, Or.inl ⟨rfl, _, SqL.of hp⟩, ?_⟩
    walk_at "s"
    refine ⟨d, p, ys, rfl, dc.dice, SqL.of hp, nep, by omega, fun y G2 y1 y2 y3 dc2 => ?_⟩
    walk_at "s"
    have hp2 := dc2.keep p _ nep hp
    refine ⟨p, _, .str y, rfl, rfl, hp2, by rw [List.length_map, sizeLine_eq]; omega, ?_⟩
    walk_at "s"
    have dc3 := dc.trans dc2
    refine ⟨ys ++ [y], _, rfl, by rw [List.length_append, hl]; rfl, fun x hx => ?_, ?_, by rw [upd_same, List.map_append]; rfl, ⟨fun b o nb z => ?_, ?_⟩⟩
    · rcases List.mem_append.mp hx with q | q
      · exact hok x q
      · have e : x = y := by simpa using q
        rw [e]
        exact ⟨y1, y3⟩
    · refine List.nodup_append.mpr ⟨hnd, by simp, fun a ha b hb e => ?_⟩
      have e2 : b = y := by simpa using hb
      rw [e, e2] at ha
      exact y2 ha
    · have bp : b ≠ p := ne_of_none z np
      rw [upd_ne bp]
      exact dc3.keep b o nb z
    · obtain ⟨a1, a2, a3, e⟩ := dc3.dice
      exact ⟨a1, a2, a3, by rw [upd_ne (Ne.symm nep)]; exact e⟩
  · rintro σ G ⟨ys, u, rfl, hl, hok, hnd, hp, dc⟩
    walk_at "s"
    exact k p G ys (by omega) hok hnd np hp dc
end
section
variable {w : World} {K : PySem.W.Frag} {mg : Str → Option Value} {base : Heap}
def sp_right : Sp := fun vs H Q _ => ∃ d : Addr, vs = [.ref d] ∧ DiceAt H d ∧ ∀ G, Dc d H G → Q (.bl true) G
theorem s_xat {n : Str} {te : TE} {σ : L2.St} {H : Hp} {Q : VK} (q : te σ H fun x H1 => ∃ (a C d : Addr) (fs : List (Str × V)) (v : V), x = .ref a ∧ XAt H1 a C (some d) fs ∧ XfC K C ∧ PySem.W.findIn K (.ref C) n = some none ∧ fs.lookup n = some v ∧ Q v H1) : tXat K n te σ H Q := q
theorem dp_strs {H : Hp} : ∀ l : List Str, DpAll K H (l.map V.str) (l.map PyData.str)
  | [] => .nil
  | z :: l => .cons (.str _) (dp_strs l)
theorem bitI (i k : Nat) : (decide (V.int (k : Int) = V.int (i : Int)) || (decide (V.int (k : Int) = V.int 0) && decide ((i : Int) < 11))) = bit i k := by
  unfold bit
  congr 1
  · rw [decide_eq_decide]
    exact ⟨fun h => by have := V.int.inj h; omega, fun h => by rw [h]⟩
  · congr 1
    · rw [decide_eq_decide]
      exact ⟨fun h => by have := V.int.inj h; omega, fun h => by rw [h]; rfl⟩
    · rw [decide_eq_decide]
      omega
def dueF (i : Nat) : V → V := fun v => .bl (decide (v = V.int (i : Int)) || (decide (v = V.int 0) && decide ((i : Int) < 11)))
theorem due_list (i : Nat) : ((intsTo 16).filter fun _ => true).map (dueF i) = (List.range 16).map fun k => V.bl (bit i k) := by
  rw [List.filter_eq_self.mpr (fun _ _ => rfl)]
  unfold intsTo
  rw [List.map_map]
  refine List.map_congr_left fun k _ => ?_
  show V.bl _ = V.bl _
  exact congrArg V.bl (bitI i k)
theorem dp_bits {H : Hp} (i : Nat) : ∀ l : List Nat, DpAll K H (l.map fun k => V.bl (bit i k)) (l.map fun k => PyData.bool (bit i k))
  | [] => .nil
  | k :: l => .cons (.bl _) (dp_bits i l)
theorem sml_bits (i : Nat) (l : List Nat) : Sml (2 + (l.map fun k => PyData.bool (bit i k)).length * (5 + 2)) (0 + 1) (.list (l.map fun k => PyData.bool (bit i k))) := sml_list fun d hd => by
  obtain ⟨k, _, rfl⟩ := List.mem_map.mp hd
  exact sml_bl _
def NumOk (n : Int) : Prop := n.natAbs ≤ 10 ^ 60
instance {n : Int} : Decidable (NumOk n) := inferInstanceAs (Decidable (n.natAbs ≤ 10 ^ 60))
theorem num_log {n : Int} (h : NumOk n) : n.natAbs.log2 < 1920 := by
  by_cases e : n.natAbs = 0
  · rw [e]
    decide
  · exact (Nat.log2_lt e).mpr (Nat.lt_of_le_of_lt h (by decide))
theorem ok__law_right (T : Txt K mg) : FnG prog0 w K mg base CX0 8 T.a__law_right T.d__law_right ["dice"] sp_right := by
  have G__law_roll : FnG prog0 w K mg base CX0 1 T.a__law_roll T.d__law_roll ["dice", "total"] sp__law_roll := ok__law_roll T
  have G__law_one_of : FnG prog0 w K mg base CX0 2 T.a__law_one_of T.d__law_one_of ["dice", "items"] (sp__law_one_of K) := ok__law_one_of T
  have G__law_name : FnG prog0 w K mg base CX0 3 T.a__law_name T.d__law_name ["dice", "taken"] (sp__law_name K) := ok__law_name T
  have G__law_names : FnG prog0 w K mg base CX0 4 T.a__law_names T.d__law_names ["dice", "size"] sp__law_names := ok__law_names T
  have G__law_kinds : FnW prog0 w K mg base CX0 1 T.a__law_kinds T.d__law_kinds ["e"] (sp_kinds T) := ok__law_kinds T
  have G__law_by_base : FnG prog0 w K mg base CX0 5 T.a__law_by_base T.d__law_by_base ["kind", "value"] (sp_by K) := ok__law_by_base T
  have G__law_first_handler : FnG prog0 w K mg base CX0 5 T.a__law_first_handler T.d__law_first_handler ["kind", "value"] (sp_first K) := ok__law_first_handler T
  have HP := @PassesOwn.never
  refine okG T.F__law_right sc__law_right (fun vs H Q E h => ?_) (fun cdv A fs s H vs Q E hr h => ?_)
  · obtain ⟨d, rfl, _⟩ := h
    rfl
  obtain ⟨d, rfl, hd, k⟩ := h
  have nd := sc__law_right.nd
  refine ⟨_, ((pss_cons (ps_set (i := 1) nd rfl (Or.inl rfl) (pe_callG G__law_one_of (hr.down (by decide)) rfl T.m__law_one_of T.F__law_one_of.kp T.b__law_one_of .nil pass0 (pa_cons (pv 0) (pa_cons (pe_lst (pa_cons pe_str (pa_cons pe_str (pa_cons pe_str (pa_cons (pe_op op_times pe_str pe_int) (pa_cons (pe_callG G__law_name (hr.down (by decide)) rfl T.m__law_name T.F__law_name.kp T.b__law_name .nil pass0 (pa_cons (pv 0) (pa_cons (pe_lst pa_nil) pa_nil))) pa_nil)))))) pa_nil))))
  (pss_cons (ps_set (i := 2) nd rfl (Or.inl rfl) (pe_callG G__law_one_of (hr.down (by decide)) rfl T.m__law_one_of T.F__law_one_of.kp T.b__law_one_of .nil pass0 (pa_cons (pv 0) (pa_cons (pe_lst (pa_cons pe_int (pa_cons pe_int (pa_cons (pe_un un_neg pe_int) (pa_cons pe_int (pa_cons pe_int (pa_cons (pe_op op_powW pe_int pe_int) (pa_cons (pe_callG G__law_roll (hr.down (by decide)) rfl T.m__law_roll T.F__law_roll.kp T.b__law_roll .nil pass0 (pa_cons (pv 0) (pa_cons (pe_op op_powW pe_int pe_int) pa_nil))) pa_nil)))))))) pa_nil))))
  (pss_cons (ps_set (i := 3) nd rfl (Or.inl rfl) (pe_callG G__law_one_of (hr.down (by decide)) rfl T.m__law_one_of T.F__law_one_of.kp T.b__law_one_of .nil pass0 (pa_cons (pv 0) (pa_cons (pe_lst (pa_cons (pv 2) (pa_cons pe_non (pa_cons pe_bl (pa_cons pe_str (pa_cons (pe_tup pa_nil) (pa_cons (pe_tup (pa_cons pe_str (pa_cons pe_int pa_nil))) (pa_cons (pe_un un_neg (pv 2)) pa_nil)))))))) pa_nil))))
  (pss_cons (ps_set (i := 4) nd rfl (Or.inl rfl) (pe_callTy call_tuple_of (by rfl) T.z_tuple (by decide +kernel) (pa_cons (pe_callG G__law_names (hr.down (by decide)) rfl T.m__law_names T.F__law_names.kp T.b__law_names .nil pass0 (pa_cons (pv 0) (pa_cons (pe_callG G__law_roll (hr.down (by decide)) rfl T.m__law_roll T.F__law_roll.kp T.b__law_roll .nil pass0 (pa_cons (pv 0) (pa_cons pe_int pa_nil))) pa_nil))) pa_nil)))
  (pss_cons (ps_set (i := 5) nd rfl (Or.inl rfl) (pe_lst (pa_cons (pe_mk0 F.excBase_ValueError T.e_AheadError.q T.e_AheadError.m T.e_AheadError.kC rfl (pv 1)) (pa_cons (pe_mk0 F.excBase_ValueError T.e_InvalidBook.q T.e_InvalidBook.m T.e_InvalidBook.kC rfl (pv 1)) (pa_cons (pe_mk0 F.excBase_ValueError T.e_InvalidItem.q T.e_InvalidItem.m T.e_InvalidItem.kC rfl (pv 1)) (pa_cons (pe_mk0 F.excBase_ValueError T.e_InvalidProgram.q T.e_InvalidProgram.m T.e_InvalidProgram.kC rfl (pv 1)) (pa_cons (pe_mk0 F.excBase_ValueError T.e_InvalidSender.q T.e_InvalidSender.m T.e_InvalidSender.kC rfl (pv 1)) pa_nil)))))))
  (pss_cons (ps_set (i := 5) nd rfl (Or.inl rfl) (pe_op op_cat (pv 5) (pe_lst (pa_cons (pe_mk0 F.excBase_ValueError T.e_InvalidServer.q T.e_InvalidServer.m T.e_InvalidServer.kC rfl (pv 1)) (pa_cons (pe_mk0 F.excBase_ValueError T.e_InvalidFacts.q T.e_InvalidFacts.m T.e_InvalidFacts.kC rfl (pv 1)) (pa_cons (pe_mk0 F.excBase_ValueError T.e_InvalidRow.q T.e_InvalidRow.m T.e_InvalidRow.kC rfl (pv 1)) (pa_cons (pe_mk0 F.excBase_ValueError T.e_InvalidStand.q T.e_InvalidStand.m T.e_InvalidStand.kC rfl (pv 1)) pa_nil)))))))
  (pss_cons (ps_set (i := 5) nd rfl (Or.inl rfl) (pe_op op_cat (pv 5) (pe_lst (pa_cons (pe_mk0 F.excBase_ValueError T.e_InvalidOperation.q T.e_InvalidOperation.m T.e_InvalidOperation.kC rfl (pv 1)) (pa_cons (pe_mkI T.e_ParseError.o T.e_ParseError.iC T.e_ParseError.tI (G_ParseError (w := w) (base := base) T 0) (hr.down (by decide)) T.e_ParseError.b rfl T.e_ParseError.m (pv 2)) (pa_cons (pe_mkI T.e_UnknownName.o T.e_UnknownName.iC T.e_UnknownName.tI (G_UnknownName (w := w) (base := base) T 0) (hr.down (by decide)) T.e_UnknownName.b rfl T.e_UnknownName.m (pv 1)) (pa_cons (pe_mkI T.e_InvalidNumber.o T.e_InvalidNumber.iC T.e_InvalidNumber.tI (G_InvalidNumber (w := w) (base := base) T 0) (hr.down (by decide)) T.e_InvalidNumber.b rfl T.e_InvalidNumber.m (pv 3)) pa_nil)))))))
  (pss_cons (ps_set (i := 5) nd rfl (Or.inl rfl) (pe_op op_cat (pv 5) (pe_lst (pa_cons (pe_mkI T.e_NothingToUndo.o T.e_NothingToUndo.iC T.e_NothingToUndo.tI (G_NothingToUndo (w := w) (base := base) T 0) (hr.down (by decide)) T.e_NothingToUndo.b rfl T.e_NothingToUndo.m (pv 2)) (pa_cons (pe_mkI T.e_TooMany.o T.e_TooMany.iC T.e_TooMany.tI (G_TooMany (w := w) (base := base) T 0) (hr.down (by decide)) T.e_TooMany.b rfl T.e_TooMany.m (pv 2)) (pa_cons (pe_mkI T.e_Unlike.o T.e_Unlike.iC T.e_Unlike.tI (G_Unlike (w := w) (base := base) T 0) (hr.down (by decide)) T.e_Unlike.b rfl T.e_Unlike.m (pv 4)) pa_nil))))))
  (pss_cons (ps_for HP rfl (pi_enum (by rfl) T.z_enumerate (pa_cons (pv 5) pa_nil)) (pg_tup (by rfl) (pgs_cons (pg_name (i := 6) nd rfl (Or.inr rfl)) (pgs_cons (pg_name (i := 7) nd rfl (Or.inl rfl)) pgs_nil))) (pss_cons (ps_setLc (i := 8) (own := [("place", 11)]) rfl nd rfl rfl (sw_true rfl rfl rfl (by decide +kernel)) (pi_range1 rfl T.z_range (pa_cons pe_int pa_nil)) (blkOk_by (own := [("place", 11)]) (N := ["dice", "word", "number", "odd", "row", "made", "kind", "e", "due", "value", "more", "place"]) (sc := defScope s__law_right) (by decide +kernel)) (fun _ _ _ _ _ => pg_name (i := 11) nd rfl (Or.inl rfl)) (fun _ _ _ _ _ => pts_nil) (fun _ _ _ _ _ => (pe_or (pe_cmpR op_eq (pv 11) (pv 6) (nomark _)) (pe_one (pe_and (pe_cmpR op_eq (pv 11) pe_int (nomark _)) (pe_one (pe_cmpR op_lt (pv 6) pe_int (nomark _))))))))
  (pss_cons (ps_if (pt_cmpR (op_neD hr.r.units) (pe_callW G__law_kinds (RoomW.of (hr.down (by decide))) rfl T.m__law_kinds T.F__law_kinds.kp T.b__law_kinds .nil pass0 (pa_cons (pv 7) pa_nil)) (pv 8) (nomark _)) (pss_one (ps_ret pe_bl)) pss_nil)
  (pss_cons (ps_set (i := 9) nd rfl (Or.inl rfl) (pe_ix ix_list (pe_lst (pa_cons (pv 1) (pa_cons (pv 2) (pa_cons (pv 1) (pa_cons (pv 3) (pa_cons (pv 2) (pa_cons (pv 2) (pa_cons (pv 4) pa_nil)))))))) (pe_callB (c_max2 rfl) (by rfl) T.z_max (by decide +kernel) (pa_cons pe_int (pa_cons (pe_op op_sub (pv 6) pe_int) pa_nil))) (fun _ _ => rfl)))
  (pss_one (ps_if (PW.pt (pw_or (pt_cmpR op_ne (pe_callG G__law_by_base (hr.down (by decide)) rfl T.m__law_by_base T.F__law_by_base.kp T.b__law_by_base .nil pass0 (pa_cons (pv 6) (pa_cons (pv 9) pa_nil))) (pe_cmpR op_lt (pv 6) pe_int (nomark _)) (nomark _)) (pw_or1 (pt_cmpR op_ne (pe_callG G__law_first_handler (hr.down (by decide)) rfl T.m__law_first_handler T.F__law_first_handler.kp T.b__law_first_handler .nil pass0 (pa_cons (pv 6) (pa_cons (pv 9) pa_nil))) (pv 6) (nomark _))))) (pss_one (ps_ret pe_bl)) pss_nil))))))
  (pss_cons (ps_set (i := 10) nd rfl (Or.inl rfl) (pe_lst (pa_cons (pe_xat (pe_ix ix_list (pv 5) pe_int (fun _ _ => rfl)) rfl) (pa_cons (pe_xat (pe_ix ix_list (pv 5) pe_int (fun _ _ => rfl)) rfl) (pa_cons (pe_xat (pe_ix ix_list (pv 5) pe_int (fun _ _ => rfl)) rfl) (pa_cons (pe_xat (pe_ix ix_list (pv 5) pe_int (fun _ _ => rfl)) rfl) (pa_cons (pe_xat (pe_ix ix_list (pv 5) pe_int (fun _ _ => rfl)) rfl) (pa_cons (pe_xat (pe_ix ix_list (pv 5) pe_int (fun _ _ => rfl)) rfl) pa_nil))))))))
  (pss_one (ps_ret (pe_cmpR op_eq (pe_callB (call_reprD hr) (by rfl) T.z_repr (by decide +kernel) (pa_cons (pv 10) pa_nil)) (pe_callB (call_reprD hr) (by rfl) T.z_repr (by decide +kernel) (pa_cons (pe_lst (pa_cons (pv 2) (pa_cons (pv 1) (pa_cons (pv 3) (pa_cons (pv 2) (pa_cons (pv 2) (pa_cons (pv 4) pa_nil))))))) pa_nil)) (nomark _))))))))))))))), ?_⟩
  walk_at "s"
  refine l_times (n := 300) (by decide) (by decide +kernel) (by decide +kernel) ?_
  walk_at "s"
  refine l_newL (by show 0 ≤ sizeLine; decide) fun p0 G0 n0 s0 e0 => ?_
  have c0 := (Dc.refl hd).same s0
  refine ⟨d, p0, [], rfl, c0.dice, SqL.of e0, fun e => hd.ne n0 e.symm, by decide, fun y G1 yok _ _ c1 => ?_⟩
  have c1' := c0.trans c1
  walk_at "s"
  refine l_newL (by show 5 ≤ sizeLine; decide) fun p2 G2 n2 s2 e2 => ?_
  have c2 := c1'.same s2
  refine ⟨d, p2, _, rfl, c2.dice, SqL.of e2, fun e => c1'.dice.ne n2 e.symm, by show 0 < 5; decide, by show 5 < 1000000; decide, fun x G3 hx c3 => ?_⟩
  have c3' := c2.trans c3
  obtain ⟨word, rfl, hword⟩ : ∃ z, x = .str z ∧ Txt1 z := by
    simp only [List.mem_cons, List.not_mem_nil, or_false] at hx
    rcases hx with rfl | rfl | rfl | rfl | rfl
    · exact ⟨_, rfl, by decide, by decide +kernel⟩
    · exact ⟨_, rfl, by decide +kernel, by decide +kernel⟩
    · exact ⟨_, rfl, by decide +kernel, by decide +kernel⟩
    · exact ⟨_, rfl, by decide +kernel, by decide +kernel⟩
    · exact ⟨_, rfl, by have := yok.2.1; omega, fun c hc => by have := (yok.2.2 c hc).2; omega⟩
  clear hx yok
  walk_at "s"
  refine ⟨d, _, rfl, c3'.dice, by decide, by decide, fun r G4 r0 r1 c4 => ?_⟩
  have c4' := c3'.trans c4
  walk_at "s"
  refine l_newL (by show 7 ≤ sizeLine; decide) fun p5 G5 n5 s5 e5 => ?_
  walk_at "s"
  have c5 := c4'.same s5
  refine ⟨d, p5, _, rfl, c5.dice, SqL.of e5, fun e => c4'.dice.ne n5 e.symm, by show 0 < 7; decide, by show 7 < 1000000; decide, fun x G6 hx c6 => ?_⟩
  have c6' := c5.trans c6
  obtain ⟨num, rfl, hnum⟩ : ∃ n, x = .int n ∧ NumOk n := by
    simp only [List.mem_cons, List.not_mem_nil, or_false] at hx
    rcases hx with rfl | rfl | rfl | rfl | rfl | rfl | rfl
    · exact ⟨_, rfl, by decide⟩
    · exact ⟨_, rfl, by decide⟩
    · exact ⟨_, rfl, by decide⟩
    · exact ⟨_, rfl, by decide⟩
    · exact ⟨_, rfl, by decide⟩
    · exact ⟨_, rfl, by decide +kernel⟩
    · refine ⟨_, rfl, ?_⟩
      have h10 : ((10 : Int) ^ Int.toNat 18) = 1000000000000000000 := by decide +kernel
      rw [h10] at r1
      have : r.natAbs ≤ 10 ^ 18 := by omega
      exact Nat.le_trans this (by decide)
  clear hx
  walk_at "s"
  refine l_newT (by show 0 ≤ sizeLine; decide) fun p7 G7 n7 s7 e7 => ?_
  have c7 := c6'.same s7
  walk_at "s"
  refine l_newT (by show 2 ≤ sizeLine; decide) fun p8 G8 n8 s8 e8 => ?_
  have c8 := c7.same s8
  walk_at "s"
  refine l_newL (by show 7 ≤ sizeLine; decide) fun p9 G9 n9 s9 e9 => ?_
  have c9 := c8.same s9
  walk_at "s"
  refine ⟨d, p9, _, rfl, c9.dice, SqL.of e9, fun e => c8.dice.ne n9 e.symm, by show 0 < 7; decide, by show 7 < 1000000; decide, fun odd G10 hx c10 => ?_⟩
  have c10' := c9.trans c10
  walk_at "s"
  refine ⟨d, 4, rfl, c10'.dice, by decide, by decide, fun r2 G11 q0 q1 c11 => ?_⟩
  have c11' := c10'.trans c11
  obtain ⟨m, rfl⟩ := Int.eq_ofNat_of_zero_le q0
  walk_at "s"
  refine ⟨d, m, rfl, c11'.dice, by omega, fun p12 G12 ys yl yok _ n12 e12 c12 => ?_⟩
  have c12' := c11'.trans c12
  walk_at "s"
  refine ⟨p12, _, rfl, Or.inl ⟨SqL.of e12, fun p13 n13 => ?_⟩⟩
  have s13 : Same G12 (upd G12 p13 (.tup (ys.map V.str))) := Same.upd0 n13
  have e13 : upd G12 p13 (.tup (ys.map V.str)) p13 = some (.tup (ys.map V.str)) := upd_same
  generalize upd G12 p13 (.tup (ys.map V.str)) = G13 at s13 e13 ⊢
  obtain ⟨po, hpo, spo⟩ : ∃ pd, Dp K G13 odd pd ∧ Sml 5000 1 pd := by
    simp only [List.mem_cons, List.not_mem_nil, or_false] at hx
    rcases hx with rfl | rfl | rfl | rfl | rfl | rfl | rfl
    · exact ⟨_, .int _, (sml_int (num_log hnum)).up (by decide) (by decide)⟩
    · exact ⟨_, .non, sml_non.up (by decide) (by decide)⟩
    · exact ⟨_, .bl _, (sml_bl _).up (by decide) (by decide)⟩
    · exact ⟨_, .str _, (sml_str (k := 1) (by decide +kernel) (by decide +kernel)).up (by decide) (by decide)⟩
    · have ne7 : p7 ≠ d := fun e => c6'.dice.ne n7 e.symm
      have e : G13 p7 = some (.tup []) := s13 _ _ (c12.keep p7 _ ne7 (c11.keep p7 _ ne7 (c10.keep p7 _ ne7 (s9 _ _ (s8 _ _ e7)))))
      exact ⟨.tuple [], .tup (SqT.of e) .nil, (sml_tup (n := 0) (m := 0) (ds := []) nofun).up (by decide) (by decide)⟩
    · have ne8 : p8 ≠ d := fun e => c7.dice.ne n8 e.symm
      have e : G13 p8 = some (.tup [.str "a", .int 1]) := s13 _ _ (c12.keep p8 _ ne8 (c11.keep p8 _ ne8 (c10.keep p8 _ ne8 (s9 _ _ e8))))
      refine ⟨.tuple [.str "a", .int 1], .tup (SqT.of e) (.cons (.str _) (.cons (.int _) .nil)), (sml_tup (n := 1921) (m := 0) (ds := [.str "a", .int 1]) fun d hd => ?_).up (by decide) (by decide)⟩
      simp only [List.mem_cons, List.not_mem_nil, or_false] at hd
      rcases hd with rfl | rfl
      · exact (sml_str (k := 1) (by decide +kernel) (by decide +kernel)).up (by decide) (by decide)
      · exact sml_int (by decide)
    · exact ⟨_, .int _, (sml_int (num_log (show NumOk (-num) by unfold NumOk; rw [Int.natAbs_neg]; exact hnum))).up (by decide) (by decide)⟩
  clear hx
  obtain ⟨pr, hpr, spr⟩ : ∃ pd, Dp K G13 (.ref p13) pd ∧ Sml 5000 1 pd := by
    refine ⟨.tuple (ys.map PyData.str), .tup (SqT.of e13) (dp_strs ys), (sml_tup (n := 82) (m := 0) fun d hd => ?_).up (by rw [List.length_map, yl]; omega) (by decide)⟩
    obtain ⟨y, hy, rfl⟩ := List.mem_map.mp hd
    have := (yok y hy).1
    exact sml_str (k := 8) this.2.1 fun c hc => by have := (this.2.2 c hc).2; omega
  have hw : Sml 5000 0 (.str word) := (sml_str hword.1 hword.2).up (by decide) (by decide)
  have hn : Sml 5000 0 (.int num) := (sml_int (num_log hnum)).up (by decide) (by decide)
  have S := Same.refl G13
  walk_at "s"
  refine s_mk0 ?_
  walk_at "s"
  refine l_mk0 fun a0 J0 m0 t0 x0 => ?_
  have S := S.trans t0
  walk_at "s"
  refine s_mk0 ?_
  walk_at "s"
  refine l_mk0 fun a1 J1 m1 t1 x1 => ?_
  have S := S.trans t1
  walk_at "s"
  refine s_mk0 ?_
  walk_at "s"
  refine l_mk0 fun a2 J2 m2 t2 x2 => ?_
  have S := S.trans t2
  walk_at "s"
  refine s_mk0 ?_
  walk_at "s"
  refine l_mk0 fun a3 J3 m3 t3 x3 => ?_
  have S := S.trans t3
  walk_at "s"
  refine s_mk0 ?_
  walk_at "s"
  refine l_mk0 fun a4 J4 m4 t4 x4 => ?_
  have S := S.trans t4
  walk_at "s"
  refine l_newL (by show 5 ≤ sizeLine; decide) fun l0 L0 k0 u0 w0 => ?_
  have S := S.trans u0
  walk_at "s"
  refine s_mk0 ?_
  walk_at "s"
  refine l_mk0 fun a5 J5 m5 t5 x5 => ?_
  have S := S.trans t5
  walk_at "s"
  refine s_mk0 ?_
  walk_at "s"
  refine l_mk0 fun a6 J6 m6 t6 x6 => ?_
  have S := S.trans t6
  walk_at "s"
  refine s_mk0 ?_
  walk_at "s"
  refine l_mk0 fun a7 J7 m7 t7 x7 => ?_
  have S := S.trans t7
  walk_at "s"
  refine s_mk0 ?_
  walk_at "s"
  refine l_mk0 fun a8 J8 m8 t8 x8 => ?_
  have S := S.trans t8
  walk_at "s"
  refine l_newL (by show 4 ≤ sizeLine; decide) fun l1 L1 k1 u1 w1 => ?_
  have S := S.trans u1
  walk_at "s"
  refine l_cat (u1 _ _ (t8 _ _ (t7 _ _ (t6 _ _ (t5 _ _ (w0)))))) w1 (by show 9 ≤ sizeLine; decide) fun b1 B1 h1 v1 z1 => ?_
  have S := S.trans v1
  walk_at "s"
  refine s_mk0 ?_
  walk_at "s"
  refine l_mk0 fun a9 J9 m9 t9 x9 => ?_
  have S := S.trans t9
  walk_at "s"
  refine s_mkI ?_
  walk_at "s"
  refine l_mkI (sml_shw (.int num) hn (by decide) (by rw [sizeLine_eq]; decide)) fun a10 d10 J10 m10 t10 x10 => ?_
  have S := S.trans t10
  walk_at "s"
  refine s_mkI ?_
  walk_at "s"
  refine l_mkI (sml_shw (.str word) hw (by decide) (by rw [sizeLine_eq]; decide)) fun a11 d11 J11 m11 t11 x11 => ?_
  have S := S.trans t11
  walk_at "s"
  refine s_mkI ?_
  walk_at "s"
  refine l_mkI (sml_shw (dp_same S hpo) spo (by decide) (by rw [sizeLine_eq]; decide)) fun a12 d12 J12 m12 t12 x12 => ?_
  have S := S.trans t12
  walk_at "s"
  refine l_newL (by show 4 ≤ sizeLine; decide) fun l2 L2 k2 u2 w2 => ?_
  have S := S.trans u2
  walk_at "s"
  refine l_cat (u2 _ _ (t12 _ _ (t11 _ _ (t10 _ _ (t9 _ _ (z1)))))) w2 (by show 13 ≤ sizeLine; decide) fun b2 B2 h2 v2 z2 => ?_
  have S := S.trans v2
  walk_at "s"
  refine s_mkI ?_
  walk_at "s"
  refine l_mkI (sml_shw (.int num) hn (by decide) (by rw [sizeLine_eq]; decide)) fun a13 d13 J13 m13 t13 x13 => ?_
  have S := S.trans t13
  walk_at "s"
  refine s_mkI ?_
  walk_at "s"
  refine l_mkI (sml_shw (.int num) hn (by decide) (by rw [sizeLine_eq]; decide)) fun a14 d14 J14 m14 t14 x14 => ?_
  have S := S.trans t14
  walk_at "s"
  refine s_mkI ?_
  walk_at "s"
  refine l_mkI (sml_shw (dp_same S hpr) spr (by decide) (by rw [sizeLine_eq]; decide)) fun a15 d15 J15 m15 t15 x15 => ?_
  have S := S.trans t15
  walk_at "s"
  refine l_newL (by show 3 ≤ sizeLine; decide) fun l3 L3 k3 u3 w3 => ?_
  have S := S.trans u3
  walk_at "s"
  refine l_cat (u3 _ _ (t15 _ _ (t14 _ _ (t13 _ _ (z2))))) w3 (by show 16 ≤ sizeLine; decide) fun b3 B3 h3 v3 z3 => ?_
  have S := S.trans v3
  walk_at "s"
  have y0 := x0.same ((((((((((((((((((((((t1).trans t2).trans t3).trans t4).trans u0).trans t5).trans t6).trans t7).trans t8).trans u1).trans v1).trans t9).trans t10).trans t11).trans t12).trans u2).trans v2).trans t13).trans t14).trans t15).trans u3).trans v3)
  have y1 := x1.same (((((((((((((((((((((t2).trans t3).trans t4).trans u0).trans t5).trans t6).trans t7).trans t8).trans u1).trans v1).trans t9).trans t10).trans t11).trans t12).trans u2).trans v2).trans t13).trans t14).trans t15).trans u3).trans v3)
  have y2 := x2.same ((((((((((((((((((((t3).trans t4).trans u0).trans t5).trans t6).trans t7).trans t8).trans u1).trans v1).trans t9).trans t10).trans t11).trans t12).trans u2).trans v2).trans t13).trans t14).trans t15).trans u3).trans v3)
  have y3 := x3.same (((((((((((((((((((t4).trans u0).trans t5).trans t6).trans t7).trans t8).trans u1).trans v1).trans t9).trans t10).trans t11).trans t12).trans u2).trans v2).trans t13).trans t14).trans t15).trans u3).trans v3)
  have y4 := x4.same ((((((((((((((((((u0).trans t5).trans t6).trans t7).trans t8).trans u1).trans v1).trans t9).trans t10).trans t11).trans t12).trans u2).trans v2).trans t13).trans t14).trans t15).trans u3).trans v3)
  have y5 := x5.same ((((((((((((((((t6).trans t7).trans t8).trans u1).trans v1).trans t9).trans t10).trans t11).trans t12).trans u2).trans v2).trans t13).trans t14).trans t15).trans u3).trans v3)
  have y6 := x6.same (((((((((((((((t7).trans t8).trans u1).trans v1).trans t9).trans t10).trans t11).trans t12).trans u2).trans v2).trans t13).trans t14).trans t15).trans u3).trans v3)
  have y7 := x7.same ((((((((((((((t8).trans u1).trans v1).trans t9).trans t10).trans t11).trans t12).trans u2).trans v2).trans t13).trans t14).trans t15).trans u3).trans v3)
  have y8 := x8.same (((((((((((((u1).trans v1).trans t9).trans t10).trans t11).trans t12).trans u2).trans v2).trans t13).trans t14).trans t15).trans u3).trans v3)
  have y9 := x9.same ((((((((((t10).trans t11).trans t12).trans u2).trans v2).trans t13).trans t14).trans t15).trans u3).trans v3)
  have y10 := x10.same (((((((((t11).trans t12).trans u2).trans v2).trans t13).trans t14).trans t15).trans u3).trans v3)
  have y11 := x11.same ((((((((t12).trans u2).trans v2).trans t13).trans t14).trans t15).trans u3).trans v3)
  have y12 := x12.same (((((((u2).trans v2).trans t13).trans t14).trans t15).trans u3).trans v3)
  have y13 := x13.same ((((t14).trans t15).trans u3).trans v3)
  have y14 := x14.same (((t15).trans u3).trans v3)
  have y15 := x15.same ((u3).trans v3)
  have made : ∀ (i : Nat) (x : V), ([V.ref a0, .ref a1, .ref a2, .ref a3, .ref a4] ++ [.ref a5, .ref a6, .ref a7, .ref a8] ++ [.ref a9, .ref a10, .ref a11, .ref a12] ++ [.ref a13, .ref a14, .ref a15] : List V)[i]? = some x →
      ∃ (a c : Addr) (od : Option Addr) (fs : List (Str × V)), x = .ref a ∧ (cs T)[i]? = some c ∧ XAt B3 a c od fs ∧ i < 16 := by
    intro i x hx
    match i, hx with
    | 0, rfl => exact ⟨_, _, _, _, rfl, rfl, y0, by decide⟩
    | 1, rfl => exact ⟨_, _, _, _, rfl, rfl, y1, by decide⟩
    | 2, rfl => exact ⟨_, _, _, _, rfl, rfl, y2, by decide⟩
    | 3, rfl => exact ⟨_, _, _, _, rfl, rfl, y3, by decide⟩
    | 4, rfl => exact ⟨_, _, _, _, rfl, rfl, y4, by decide⟩
    | 5, rfl => exact ⟨_, _, _, _, rfl, rfl, y5, by decide⟩
    | 6, rfl => exact ⟨_, _, _, _, rfl, rfl, y6, by decide⟩
    | 7, rfl => exact ⟨_, _, _, _, rfl, rfl, y7, by decide⟩
    | 8, rfl => exact ⟨_, _, _, _, rfl, rfl, y8, by decide⟩
    | 9, rfl => exact ⟨_, _, _, _, rfl, rfl, y9, by decide⟩
    | 10, rfl => exact ⟨_, _, _, _, rfl, rfl, y10, by decide⟩
    | 11, rfl => exact ⟨_, _, _, _, rfl, rfl, y11, by decide⟩
    | 12, rfl => exact ⟨_, _, _, _, rfl, rfl, y12, by decide⟩
    | 13, rfl => exact ⟨_, _, _, _, rfl, rfl, y13, by decide⟩
    | 14, rfl => exact ⟨_, _, _, _, rfl, rfl, y14, by decide⟩
    | 15, rfl => exact ⟨_, _, _, _, rfl, rfl, y15, by decide⟩
    | i + 16, hx => cases hx
  refine s_forE (s_cons (s_var rfl (s_nil ?_)))
  refine l_forE (SqL.of z3) (fun i σ G => Same B3 G ∧ ∃ u6 u7 u8 u9, σ = [some (.ref d), some (.str word), some (.int num), some odd, some (.ref p13), some (.ref b3), u6, u7, u8, u9, none, none]) ⟨Same.refl B3, _, _, _, _, rfl⟩ (fun i σ G _ h => SqL.of (h.1 _ _ z3)) ?_ ?_
  · rintro i x Tp σ G hx ⟨sG, u6, u7, u8, u9, rfl⟩ nT
    obtain ⟨a, c, od, fs, rfl, hc, xa, i16⟩ := made i x hx
    refine l_gtup (SqT.of upd_same) rfl ?_
    have sG' := sG.trans (Same.upd0 (o := .tup [.int (i : Nat), .ref a]) nT)
    generalize upd G Tp (.tup [.int (i : Nat), .ref a]) = G' at sG'
    walk_at "s"
    refine s_lcR (s_cons (s_c (s_nil ?_)))
    refine l_lcR (n := 16) (by decide) (fun _ => true) (dueF i) (fun v _ J _ R r => s_yes (r J (Same.refl J))) (fun v hv _ J _ R r => ?_) (fun D G2 _ s2 e2 => ?_)
    · obtain ⟨k', _, rfl⟩ := List.mem_map.mp hv
      refine s_orV (s_op (s_var rfl (s_var rfl (l_eq rfl ⟨_, rfl, ?_⟩))))
      refine i_b (fun e => ?_) (fun e => ?_)
      · have q : dueF i (V.int (k' : Nat)) = .bl true := by
          show V.bl _ = V.bl _
          rw [show decide (V.int (k' : Nat) = V.int (i : Int)) = true from e]
          rfl
        rw [q] at r
        exact r J (Same.refl J)
      · refine s_andV (s_op (s_var rfl (s_c (l_eq rfl ⟨_, rfl, ?_⟩))))
        refine i_b (fun e' => ?_) (fun e' => ?_)
        · refine s_op (s_var rfl (s_c (l_I0 ?_)))
          have q : dueF i (V.int (k' : Nat)) = .bl (decide ((i : Int) < 11)) := by
            show V.bl _ = V.bl _
            rw [show decide (V.int (k' : Nat) = V.int (i : Int)) = false from e, show decide (V.int (k' : Nat) = V.int 0) = true from e']
            rfl
          rw [q] at r
          exact r J (Same.refl J)
        · have q : dueF i (V.int (k' : Nat)) = .bl false := by
            show V.bl _ = V.bl _
            rw [show decide (V.int (k' : Nat) = V.int (i : Int)) = false from e, show decide (V.int (k' : Nat) = V.int 0) = false from e']
            rfl
          rw [q] at r
          exact r J (Same.refl J)
    rw [due_list] at e2
    have sG2 := sG'.trans s2
    walk_at "s"
    refine ⟨a, c, i, od, fs, rfl, hc, xa.same sG2, fun p3 G3 _ s3 e3 => ?_⟩
    have sG3 := sG2.trans s3
    walk_at "s"
    refine l_neD (.lst (SqL.of e3) (dp_bits i _)) (.lst (SqL.of (s3 _ _ e2)) (dp_bits i _)) ((sml_bits i _).shaped (by decide)) ((sml_bits i _).shaped (by decide)) ?_
    rw [SeqAt.eqv_refl _ (sml_bits i _).lay]
    walk_at "s"
    refine i_f rfl ?_
    walk_at "s"
    refine l_newL (by show 7 ≤ sizeLine; decide) fun p4 G4 _ s4 e4 => ?_
    have sG4 := sG3.trans s4
    walk_at "s"
    obtain ⟨v, pd, hv, hdv, hsv⟩ : ∃ v pd, atI [V.str word, .int num, .str word, odd, .int num, .int num, .ref p13] (if (i : Int) - 9 > 0 then (i : Int) - 9 else 0) = some v ∧ Dp K G4 v pd ∧ Sml 5000 1 pd := by
      have idx : (if (i : Int) - 9 > 0 then (i : Int) - 9 else 0) = ((i - 9 : Nat) : Int) := by split <;> omega
      rw [idx]
      have sA := S.trans sG4
      have cs7 : i - 9 = 0 ∨ i - 9 = 1 ∨ i - 9 = 2 ∨ i - 9 = 3 ∨ i - 9 = 4 ∨ i - 9 = 5 ∨ i - 9 = 6 := by omega
      rcases cs7 with h | h | h | h | h | h | h
      · exact ⟨_, _, by rw [h]; exact atI_nat rfl, .str _, hw.up (by decide) (by decide)⟩
      · exact ⟨_, _, by rw [h]; exact atI_nat rfl, .int _, hn.up (by decide) (by decide)⟩
      · exact ⟨_, _, by rw [h]; exact atI_nat rfl, .str _, hw.up (by decide) (by decide)⟩
      · exact ⟨_, _, by rw [h]; exact atI_nat rfl, dp_same sA hpo, spo⟩
      · exact ⟨_, _, by rw [h]; exact atI_nat rfl, .int _, hn.up (by decide) (by decide)⟩
      · exact ⟨_, _, by rw [h]; exact atI_nat rfl, .int _, hn.up (by decide) (by decide)⟩
      · exact ⟨_, _, by rw [h]; exact atI_nat rfl, dp_same sA hpr, spr⟩
    refine l_ixL (SqL.of e4) hv ?_
    walk_at "s"
    refine ⟨(i : Int), v, i, rfl, sml_shw hdv hsv (by decide) (by rw [sizeLine_eq]; decide), rfl, i16, fun G5 s5 => ?_⟩
    have sG5 := sG4.trans s5
    walk_at "s"
    have eb : (!decide (V.bl (decide (i < 11)) = V.bl (decide ((i : Int) < 11)))) = false := by
      have e : decide (i < 11) = decide ((i : Int) < 11) := by
        rw [decide_eq_decide]
        omega
      rw [e]
      simp
    refine i_f eb ?_
    walk_at "s"
    refine ⟨(i : Int), v, i, pd, rfl, sml_shw (dp_same s5 hdv) hsv (by decide) (by rw [sizeLine_eq]; decide), rfl, i16, dp_same s5 hdv, hsv.shaped (by decide), fun G6 s6 => ?_⟩
    have sG6 := sG5.trans s6
    walk_at "s"
    have ei : (!decide (V.int (i : Int) = V.int (i : Int))) = false := by simp
    refine i_f ei ?_
    walk_at "s"
    exact ⟨sG6, _, _, _, _, rfl⟩
  · rintro σ G ⟨sG, u6, u7, u8, u9, rfl⟩
    walk_at "s"
    refine s_xat (s_op (s_var rfl (s_c (l_ixL (SqL.of (sG _ _ z3)) (i := 10) (v := .ref a10) (by rfl) ⟨a10, _, _, _, _, rfl, y10.same sG, T.e_ParseError.xf, T.e_ParseError.no, rfl, ?_⟩))))
    walk_at "s"
    refine s_xat (s_op (s_var rfl (s_c (l_ixL (SqL.of (sG _ _ z3)) (i := 11) (v := .ref a11) (by rfl) ⟨a11, _, _, _, _, rfl, y11.same sG, T.e_UnknownName.xf, T.e_UnknownName.no, rfl, ?_⟩))))
    walk_at "s"
    refine s_xat (s_op (s_var rfl (s_c (l_ixL (SqL.of (sG _ _ z3)) (i := 12) (v := .ref a12) (by rfl) ⟨a12, _, _, _, _, rfl, y12.same sG, T.e_InvalidNumber.xf, T.e_InvalidNumber.no, rfl, ?_⟩))))
    walk_at "s"
    refine s_xat (s_op (s_var rfl (s_c (l_ixL (SqL.of (sG _ _ z3)) (i := 13) (v := .ref a13) (by rfl) ⟨a13, _, _, _, _, rfl, y13.same sG, T.e_NothingToUndo.xf, T.e_NothingToUndo.no, rfl, ?_⟩))))
    walk_at "s"
    refine s_xat (s_op (s_var rfl (s_c (l_ixL (SqL.of (sG _ _ z3)) (i := 14) (v := .ref a14) (by rfl) ⟨a14, _, _, _, _, rfl, y14.same sG, T.e_TooMany.xf, T.e_TooMany.no, rfl, ?_⟩))))
    walk_at "s"
    refine s_xat (s_op (s_var rfl (s_c (l_ixL (SqL.of (sG _ _ z3)) (i := 15) (v := .ref a15) (by rfl) ⟨a15, _, _, _, _, rfl, y15.same sG, T.e_Unlike.xf, T.e_Unlike.no, rfl, ?_⟩))))
    walk_at "s"
    refine l_newL (by show 6 ≤ sizeLine; decide) fun q1 M1 _ j1 f1 => ?_
    walk_at "s"
    have sS := S.trans sG
    have sm : Sml 40000 2 (.list [.int num, .str word, po, .int num, .int num, pr]) := (sml_list (n := 5000) (m := 1) fun d hd => by
      simp only [List.mem_cons, List.not_mem_nil, or_false] at hd
      rcases hd with rfl | rfl | rfl | rfl | rfl | rfl
      · exact hn.up (by decide) (by decide)
      · exact hw.up (by decide) (by decide)
      · exact spo
      · exact hn.up (by decide) (by decide)
      · exact hn.up (by decide) (by decide)
      · exact spr).up (by show 2 + 6 * (5000 + 2) ≤ 40000; decide) (by decide)
    have six : ∀ {J : Hp}, Same G13 J → DpAll K J [.int num, .str word, odd, .int num, .int num, .ref p13] [.int num, .str word, po, .int num, .int num, pr] := fun s =>
      .cons (.int _) (.cons (.str _) (.cons (dp_same s hpo) (.cons (.int _) (.cons (.int _) (.cons (dp_same s hpr) .nil)))))
    have ln : (PyData.list [.int num, .str word, po, .int num, .int num, pr]).shown.length ≤ sizeLine := Nat.le_trans sm.ln (by rw [sizeLine_eq]; decide)
    refine l_repr (.lst (SqL.of f1) (six (sS.trans j1))) sm.sh sm.nd (Nat.le_trans sm.dp (by decide)) ln ?_
    walk_at "s"
    refine l_newL (by show 6 ≤ sizeLine; decide) fun q2 M2 _ j2 f2 => ?_
    walk_at "s"
    refine l_repr (.lst (SqL.of f2) (six ((sS.trans j1).trans j2))) sm.sh sm.nd (Nat.le_trans sm.dp (by decide)) ln ?_
    walk_at "s"
    rw [decide_eq_true rfl]
    exact k M2 (((((c12'.same s13).same S).same sG).same j1).same j2)
end
section
variable {w : World} {K : PySem.W.Frag} {mg : Str → Option Value} {base : Heap}
theorem dp_bB {H : Hp} (i : Nat) : ∀ l : List Nat, DpAll K H (l.map fun k => V.bl (bitB i k)) (l.map fun k => PyData.bool (bitB i k))
  | [] => .nil
  | k :: l => .cons (.bl _) (dp_bB i l)
def rowB (i : Nat) : PyData := .list ((List.range 6).map fun k => PyData.bool (bitB i k))
theorem dp_bls {H : Hp} : ∀ bs : List Bool, DpAll K H (bs.map V.bl) (bs.map PyData.bool)
  | [] => .nil
  | b :: bs => .cons (.bl b) (dp_bls bs)
def bls (bs : List Bool) : PyData := .list (bs.map PyData.bool)
theorem dp_row {H : Hp} {p : Addr} {i : Nat} (h : H p = some (.lst ((List.range 6).map fun k => V.bl (bitB i k)))) : Dp K H (.ref p) (rowB i) := .lst (SqL.of h) (dp_bB i _)
theorem dp_cells {H : Hp} {p : Addr} (bs : List Bool) {xs : List V} (h : H p = some (.lst xs)) (e : xs = bs.map V.bl) : Dp K H (.ref p) (bls bs) := by
  subst e
  exact .lst (SqL.of h) (dp_bls bs)
def sp_law (K : PySem.W.Frag) : Sp := fun vs H Q _ => ∃ (a : Addr) (ns : List Int), vs = [.ref a] ∧ SqL K H a (ns.map V.int) ∧ ns.length ≤ 63 ∧ ∀ H', Q (.bl true) H'
theorem ok_law (T : Txt K mg) : FnG prog0 w K mg base CX0 10 T.a_law T.d_law ["script"] (sp_law K) := by
  have G__law_dice : FnG prog0 w K mg base CX0 1 T.a__law_dice T.d__law_dice ["script", "at"] (sp__law_dice K) := ok__law_dice T
  have G__law_right : FnG prog0 w K mg base CX0 8 T.a__law_right T.d__law_right ["dice"] sp_right := ok__law_right T
  have G__law_bases : FnG prog0 w K mg base CX0 1 T.a__law_bases T.d__law_bases ["e"] (sp_bases T) := ok__law_bases T
  have HP := @PassesOwn.never
  refine okG T.F_law sc_law (fun vs H Q E h => ?_) (fun cdv A fs s H vs Q E hr h => ?_)
  · obtain ⟨a, ns, rfl, _⟩ := h
    rfl
  obtain ⟨a, ns, rfl, hS, hl, k⟩ := h
  have nd := sc_law.nd
  refine ⟨_, ((pss_cons (ps_for HP rfl (pi_range1 rfl T.z_range (pa_cons (pe_callB (c_max2 rfl) (by rfl) T.z_max (by decide +kernel) (pa_cons pe_int (pa_cons (pe_callB (c_min2 rfl) (by rfl) T.z_min (by decide +kernel) (pa_cons pe_int (pa_cons (pe_callB c_len (by rfl) T.z_len (by decide +kernel) (pa_cons (pv 0) pa_nil)) pa_nil))) pa_nil))) pa_nil)) (pg_name (i := 1) nd rfl (Or.inl rfl)) (pss_one (ps_if (pt_not (pt_val (pe_callG G__law_right (hr.down (by decide)) rfl T.m__law_right T.F__law_right.kp T.b__law_right .nil pass0 (pa_cons (pe_callG G__law_dice (hr.down (by decide)) rfl T.m__law_dice T.F__law_dice.kp T.b__law_dice .nil pass0 (pa_cons (pv 0) (pa_cons (pv 1) pa_nil))) pa_nil)))) (pss_one (ps_ret pe_bl)) pss_nil)))
  (pss_cons (ps_par (i := 2) (j := 3) rfl nd rfl rfl (by decide) rfl rfl (pa_cons (pe_op op_cat (pe_lst (pa_cons pe_bl pa_nil)) (pe_op op_rep (pe_lst (pa_cons pe_bl pa_nil)) pe_int)) (pa_cons (pe_lst (pa_consts (by rfl))) pa_nil)) (by rfl))
  (pss_cons (ps_set (i := 4) nd rfl (Or.inl rfl) (pe_lst (pa_consts (by rfl))))
  (pss_cons (ps_set (i := 5) nd rfl (Or.inl rfl) (pe_lst (pa_cons (pe_callG G__law_bases (hr.down (by decide)) rfl T.m__law_bases T.F__law_bases.kp T.b__law_bases .nil pass0 (pa_cons (pe_mk0 F.excBase_ValueError T.e_InvalidBook.q T.e_InvalidBook.m T.e_InvalidBook.kC rfl pe_str) pa_nil)) (pa_cons (pe_callG G__law_bases (hr.down (by decide)) rfl T.m__law_bases T.F__law_bases.kp T.b__law_bases .nil pass0 (pa_cons (pe_mkI T.e_ParseError.o T.e_ParseError.iC T.e_ParseError.tI (G_ParseError (w := w) (base := base) T 0) (hr.down (by decide)) T.e_ParseError.b rfl T.e_ParseError.m pe_int) pa_nil)) (pa_cons (pe_callG G__law_bases (hr.down (by decide)) rfl T.m__law_bases T.F__law_bases.kp T.b__law_bases .nil pass0 (pa_cons (pe_mkI T.e_UnknownName.o T.e_UnknownName.iC T.e_UnknownName.tI (G_UnknownName (w := w) (base := base) T 0) (hr.down (by decide)) T.e_UnknownName.b rfl T.e_UnknownName.m pe_str) pa_nil)) pa_nil)))))
  (pss_cons (ps_set (i := 5) nd rfl (Or.inl rfl) (pe_op op_cat (pv 5) (pe_lst (pa_cons (pe_callG G__law_bases (hr.down (by decide)) rfl T.m__law_bases T.F__law_bases.kp T.b__law_bases .nil pass0 (pa_cons (pe_mkI T.e_InvalidNumber.o T.e_InvalidNumber.iC T.e_InvalidNumber.tI (G_InvalidNumber (w := w) (base := base) T 0) (hr.down (by decide)) T.e_InvalidNumber.b rfl T.e_InvalidNumber.m pe_int) pa_nil)) (pa_cons (pe_callG G__law_bases (hr.down (by decide)) rfl T.m__law_bases T.F__law_bases.kp T.b__law_bases .nil pass0 (pa_cons (pe_mkI T.e_NothingToUndo.o T.e_NothingToUndo.iC T.e_NothingToUndo.tI (G_NothingToUndo (w := w) (base := base) T 0) (hr.down (by decide)) T.e_NothingToUndo.b rfl T.e_NothingToUndo.m pe_int) pa_nil)) (pa_cons (pe_callG G__law_bases (hr.down (by decide)) rfl T.m__law_bases T.F__law_bases.kp T.b__law_bases .nil pass0 (pa_cons (pe_mkI T.e_TooMany.o T.e_TooMany.iC T.e_TooMany.tI (G_TooMany (w := w) (base := base) T 0) (hr.down (by decide)) T.e_TooMany.b rfl T.e_TooMany.m pe_int) pa_nil)) pa_nil))))))
  (pss_cons (ps_expr (pe_bm PySem.F.plainAttrs_list PySem.F.slot_list_append PySem.F.type_list_append mt_append (pv 5) (pa_cons (pe_callG G__law_bases (hr.down (by decide)) rfl T.m__law_bases T.F__law_bases.kp T.b__law_bases .nil pass0 (pa_cons (pe_mkI T.e_Unlike.o T.e_Unlike.iC T.e_Unlike.tI (G_Unlike (w := w) (base := base) T 0) (hr.down (by decide)) T.e_Unlike.b rfl T.e_Unlike.m (pe_tup (pa_cons pe_str pa_nil))) pa_nil)) pa_nil)))
  (pss_cons (ps_set (i := 6) nd rfl (Or.inl rfl) (pe_lst (pa_cons (pv 2) (pa_cons (pv 2) (pa_cons (pv 3) (pa_cons (pe_op op_cat (pv 4) (pe_lst (pa_cons pe_bl (pa_cons pe_bl pa_nil)))) (pa_cons (pe_lst (pa_consts (by rfl))) pa_nil)))))))
  (pss_one (ps_ret (pe_cmpR (op_eqD hr.r.units) (pv 5) (pe_op op_cat (pv 6) (pe_lst (pa_cons (pe_op op_cat (pe_op op_rep (pe_lst (pa_cons pe_bl pa_nil)) pe_int) (pe_lst (pa_cons pe_bl (pa_cons pe_bl pa_nil)))) (pa_cons (pe_op op_cat (pe_op op_rep (pe_lst (pa_cons pe_bl pa_nil)) pe_int) (pe_lst (pa_cons pe_bl pa_nil))) pa_nil)))) (nomark _)))))))))))), ?_⟩
  walk_at "s"
  have small : ∀ n : Int, n = (if (if ((ns.map V.int).length : Int) < 5 then ((ns.map V.int).length : Int) else 5) > 1 then (if ((ns.map V.int).length : Int) < 5 then ((ns.map V.int).length : Int) else 5) else 1) → 0 ≤ n ∧ n ≤ 5 := by
    intro n e
    subst e
    split <;> split <;> omega
  have sm := small _ rfl
  refine l_forR (by omega) (by omega) (fun i τ G => ∃ u1 : Option V, τ = [some (.ref a), u1, none, none, none, none, none] ∧ Same H G) ⟨_, rfl, Same.refl H⟩ ?_ ?_
  · rintro i τ G hi ⟨u1, rfl, sG⟩
    walk_at "s"
    refine ⟨a, ns, _, rfl, sG.seq hS, by omega, fun d G1 nd1 s1 dice1 => ?_⟩
    walk_at "s"
    refine ⟨d, rfl, dice1, fun G2 dc => ?_⟩
    walk_at "s"
    refine i_f rfl ?_
    walk_at "s"
    exact ⟨_, rfl, same_keep (sG.trans s1) (sG.free nd1) dc.keep⟩
  · rintro τ G ⟨u1, rfl, sG⟩
    walk_at "s"
    refine l_newL (by show 1 ≤ sizeLine; decide) fun p1 G1 _ s1 e1 => ?_
    walk_at "s"
    refine l_newL (by show 1 ≤ sizeLine; decide) fun p2 G2 _ s2 e2 => ?_
    walk_at "s"
    refine l_rep e2 (by decide) (by decide) (by show 1 * 5 ≤ sizeLine; decide) fun p3 G3 _ s3 e3 => ?_
    walk_at "s"
    refine l_cat (s3 _ _ (s2 _ _ e1)) e3 (by show 6 ≤ sizeLine; decide) fun p4 G4 _ s4 e4 => ?_
    walk_at "s"
    refine l_newL (by show 6 ≤ sizeLine; decide) fun p5 G5 _ s5 e5 => ?_
    walk_at "s"
    refine l_newL (by show 4 ≤ sizeLine; decide) fun p6 G6 _ s6 e6 => ?_
    walk_at "s"
    refine s_mk0 ?_
    walk_at "s"
    refine l_mk0 fun a1 J1 _ t1 x1 => ?_
    walk_at "s"
    refine ⟨a1, _, 1, _, _, rfl, rfl, x1, fun q1 L1 _ r1 f1 => ?_⟩
    walk_at "s"
    refine s_mkI ?_
    walk_at "s"
    refine l_mkI (sml_shw (.int _) (sml_int (by decide)) (by decide) (by rw [sizeLine_eq]; decide)) fun a2 d2 J2 _ t2 x2 => ?_
    walk_at "s"
    refine ⟨a2, _, 10, _, _, rfl, rfl, x2, fun q2 L2' _ r2 f2 => ?_⟩
    walk_at "s"
    refine s_mkI ?_
    walk_at "s"
    refine l_mkI (sml_shw (.str _) (sml_str (k := 1) (by decide +kernel) (by decide +kernel)) (by decide) (by rw [sizeLine_eq]; decide)) fun a3 d3 J3 _ t3 x3 => ?_
    walk_at "s"
    refine ⟨a3, _, 11, _, _, rfl, rfl, x3, fun q3 L3 _ r3 f3 => ?_⟩
    walk_at "s"
    refine l_newL (by show 3 ≤ sizeLine; decide) fun b1 B1 _ v1 z1 => ?_
    walk_at "s"
    refine s_mkI ?_
    walk_at "s"
    refine l_mkI (sml_shw (.int _) (sml_int (by decide)) (by decide) (by rw [sizeLine_eq]; decide)) fun a4 d4 J4 _ t4 x4 => ?_
    walk_at "s"
    refine ⟨a4, _, 12, _, _, rfl, rfl, x4, fun q4 L4 _ r4 f4 => ?_⟩
    walk_at "s"
    refine s_mkI ?_
    walk_at "s"
    refine l_mkI (sml_shw (.int _) (sml_int (by decide)) (by decide) (by rw [sizeLine_eq]; decide)) fun a5 d5 J5 _ t5 x5 => ?_
    walk_at "s"
    refine ⟨a5, _, 13, _, _, rfl, rfl, x5, fun q5 L5 _ r5 f5 => ?_⟩
    walk_at "s"
    refine s_mkI ?_
    walk_at "s"
    refine l_mkI (sml_shw (.int _) (sml_int (by decide)) (by decide) (by rw [sizeLine_eq]; decide)) fun a6 d6 J6 _ t6 x6 => ?_
    walk_at "s"
    refine ⟨a6, _, 14, _, _, rfl, rfl, x6, fun q6 L6 _ r6 f6 => ?_⟩
    walk_at "s"
    refine l_newL (by show 3 ≤ sizeLine; decide) fun b2 B2 _ v2 z2 => ?_
    walk_at "s"
    refine l_cat (v2 _ _ (r6 _ _ (t6 _ _ (r5 _ _ (t5 _ _ (r4 _ _ (t4 _ _ z1))))))) z2 (by show 6 ≤ sizeLine; decide) fun b3 B3 nb3 v3 z3 => ?_
    walk_at "s"
    have at_p4 := v2 _ _ (r6 _ _ (t6 _ _ (r5 _ _ (t5 _ _ (r4 _ _ (t4 _ _ (v1 _ _ (r3 _ _ (t3 _ _ (r2 _ _ (t2 _ _ (r1 _ _ (t1 _ _ (s6 _ _ (s5 _ _ (e4))))))))))))))))
    have at_p5 := v2 _ _ (r6 _ _ (t6 _ _ (r5 _ _ (t5 _ _ (r4 _ _ (t4 _ _ (v1 _ _ (r3 _ _ (t3 _ _ (r2 _ _ (t2 _ _ (r1 _ _ (t1 _ _ (s6 _ _ (e5)))))))))))))))
    have at_p6 := v2 _ _ (r6 _ _ (t6 _ _ (r5 _ _ (t5 _ _ (r4 _ _ (t4 _ _ (v1 _ _ (r3 _ _ (t3 _ _ (r2 _ _ (t2 _ _ (r1 _ _ (t1 _ _ (e6))))))))))))))
    have at_q1 := v2 _ _ (r6 _ _ (t6 _ _ (r5 _ _ (t5 _ _ (r4 _ _ (t4 _ _ (v1 _ _ (r3 _ _ (t3 _ _ (r2 _ _ (t2 _ _ (f1))))))))))))
    have at_q2 := v2 _ _ (r6 _ _ (t6 _ _ (r5 _ _ (t5 _ _ (r4 _ _ (t4 _ _ (v1 _ _ (r3 _ _ (t3 _ _ (f2))))))))))
    have at_q3 := v2 _ _ (r6 _ _ (t6 _ _ (r5 _ _ (t5 _ _ (r4 _ _ (t4 _ _ (v1 _ _ (f3))))))))
    have at_q4 := v2 _ _ (r6 _ _ (t6 _ _ (r5 _ _ (t5 _ _ (f4)))))
    have at_q5 := v2 _ _ (r6 _ _ (t6 _ _ (f5)))
    have at_q6 := v2 _ _ (f6)
    refine ⟨.ref b3, rfl, Or.inl ⟨rfl, _, SqL.of z3⟩, ?_⟩
    walk_at "s"
    refine s_mkI ?_
    walk_at "s"
    refine l_newT (by show 1 ≤ sizeLine; decide) fun p7 K1 _ c1 g1 => ?_
    refine l_mkI (sml_shw (.tup (SqT.of g1) (.cons (.str _) .nil)) (sml_tup (n := 12) (m := 0) (ds := [.str "x"]) fun d hd => by
      simp only [List.mem_cons, List.not_mem_nil, or_false] at hd
      rw [hd]
      exact sml_str (k := 1) (by decide +kernel) (by decide +kernel)) (by decide) (by rw [sizeLine_eq]; decide)) fun a7 d7 J7 _ t7 x7 => ?_
    walk_at "s"
    refine ⟨a7, _, 15, _, _, rfl, rfl, x7, fun q7 L7 nq7 r7 f7 => ?_⟩
    walk_at "s"
    have sZ := ((v3.trans c1).trans t7).trans r7
    have zb := r7 _ _ (t7 _ _ (c1 _ _ z3))
    refine ⟨b3, _, .ref q7, rfl, rfl, zb, by show 6 < sizeLine; decide, ?_⟩
    have ne7 : q7 ≠ b3 := fun e => by
      rw [e, t7 _ _ (c1 _ _ z3)] at nq7
      cases nq7
    have keep : ∀ b u, B2 b = some u → upd L7 b3 (.lst ([V.ref q1, .ref q2, .ref q3] ++ [.ref q4, .ref q5, .ref q6] ++ [.ref q7])) b = some u := fun b u z => by
      rw [upd_ne (ne_of_none z nb3)]
      exact sZ _ _ z
    have fq7 : upd L7 b3 (.lst ([V.ref q1, .ref q2, .ref q3] ++ [.ref q4, .ref q5, .ref q6] ++ [.ref q7])) q7 = some (.lst ((List.range 6).map fun k => V.bl (bitB 15 k))) := by
      rw [upd_ne ne7]
      exact f7
    have fb3 : upd L7 b3 (.lst ([V.ref q1, .ref q2, .ref q3] ++ [.ref q4, .ref q5, .ref q6] ++ [.ref q7])) b3 = some (.lst ([V.ref q1, .ref q2, .ref q3] ++ [.ref q4, .ref q5, .ref q6] ++ [.ref q7])) := upd_same
    generalize upd L7 b3 (.lst ([V.ref q1, .ref q2, .ref q3] ++ [.ref q4, .ref q5, .ref q6] ++ [.ref q7])) = U at keep fq7 fb3 ⊢
    walk_at "s"
    refine l_newL (by show 2 ≤ sizeLine; decide) fun i1 M1 _ w1 h1 => ?_
    walk_at "s"
    refine l_cat (w1 _ _ (keep _ _ at_p6)) h1 (by show 6 ≤ sizeLine; decide) fun i2 M2 _ w2 h2 => ?_
    walk_at "s"
    refine l_newL (by show 6 ≤ sizeLine; decide) fun i3 M3 _ w3 h3 => ?_
    walk_at "s"
    refine l_newL (by show 5 ≤ sizeLine; decide) fun i4 M4 _ w4 h4 => ?_
    walk_at "s"
    refine l_newL (by show 1 ≤ sizeLine; decide) fun j1 N1 _ y1 g2 => ?_
    walk_at "s"
    refine l_rep g2 (by decide) (by decide) (by show 1 * 4 ≤ sizeLine; decide) fun j2 N2 _ y2 g3 => ?_
    walk_at "s"
    refine l_newL (by show 2 ≤ sizeLine; decide) fun j3 N3 _ y3 g4 => ?_
    walk_at "s"
    refine l_cat (y3 _ _ g3) g4 (by show 6 ≤ sizeLine; decide) fun j4 N4 _ y4 g5 => ?_
    walk_at "s"
    refine l_newL (by show 1 ≤ sizeLine; decide) fun j5 N5 _ y5 g6 => ?_
    walk_at "s"
    refine l_rep g6 (by decide) (by decide) (by show 1 * 5 ≤ sizeLine; decide) fun j6 N6 _ y6 g7 => ?_
    walk_at "s"
    refine l_newL (by show 1 ≤ sizeLine; decide) fun j7 N7 _ y7 g8 => ?_
    walk_at "s"
    refine l_cat (y7 _ _ g7) g8 (by show 6 ≤ sizeLine; decide) fun j8 N8 _ y8 g9 => ?_
    walk_at "s"
    refine l_newL (by show 2 ≤ sizeLine; decide) fun j9 N9 _ y9 g10 => ?_
    walk_at "s"
    have sM4 := (((y1.trans y2).trans y3).trans y4).trans ((((y5.trans y6).trans y7).trans y8).trans y9)
    refine l_cat (sM4 _ _ h4) g10 (by show 7 ≤ sizeLine; decide) fun o1 O1 _ sO eO => ?_
    have sU : Same U O1 := (((w1.trans w2).trans w3).trans w4).trans (sM4.trans sO)
    have at1 : ∀ b u, B2 b = some u → O1 b = some u := fun b u z => sU _ _ (keep _ _ z)
    refine l_eqD (d := .list [rowB 1, rowB 10, rowB 11, rowB 12, rowB 13, rowB 14, rowB 15])
      (e := .list [bls [true, false, false, false, false, false], bls [true, false, false, false, false, false], bls [false, true, false, true, false, false], bls [false, false, true, true, false, false], bls [false, false, false, true, false, false], bls [false, false, false, false, true, false], bls [false, false, false, false, false, true]])
      (.lst (SqL.of (sU _ _ fb3)) (.cons (dp_row (at1 _ _ at_q1)) (.cons (dp_row (at1 _ _ at_q2)) (.cons (dp_row (at1 _ _ at_q3)) (.cons (dp_row (at1 _ _ at_q4)) (.cons (dp_row (at1 _ _ at_q5)) (.cons (dp_row (at1 _ _ at_q6)) (.cons (dp_row (sU _ _ fq7)) .nil))))))))
      (.lst (SqL.of eO) (.cons (dp_cells _ (at1 _ _ at_p4) rfl) (.cons (dp_cells _ (at1 _ _ at_p4) rfl) (.cons (dp_cells _ (at1 _ _ at_p5) rfl) (.cons (dp_cells _ (sO _ _ (sM4 _ _ (w4 _ _ (w3 _ _ h2)))) rfl) (.cons (dp_cells _ (sO _ _ (sM4 _ _ (w4 _ _ h3))) rfl) (.cons (dp_cells _ (sO _ _ (y9 _ _ (y8 _ _ (y7 _ _ (y6 _ _ (y5 _ _ g5)))))) rfl) (.cons (dp_cells _ (sO _ _ (y9 _ _ g9)) rfl) .nil)))))))) (by decide +kernel) (by decide +kernel) ?_
    have fin : PyData.eqv (.list [rowB 1, rowB 10, rowB 11, rowB 12, rowB 13, rowB 14, rowB 15]) (.list [bls [true, false, false, false, false, false], bls [true, false, false, false, false, false], bls [false, true, false, true, false, false], bls [false, false, true, true, false, false], bls [false, false, false, true, false, false], bls [false, false, false, false, true, false], bls [false, false, false, false, false, true]]) = true := by decide +kernel
    rw [fin]
    exact k O1
end
set_option maxHeartbeats 4000000 in
theorem all_mk {w : World} {K : PySem.W.Frag} {h : Heap} {mg : Str → Option Value} {fa : Addr} (X : K.In h) (G : h.Ns mainGlobals mg) (hfa : mg "law" = some (.ref fa))
    {f0 : Addr} {od0 an0 : Option Addr} {sl0 : Array (Option Value)} {oc0 kV0 dc0 pm0 cd0 ct0 : Value}
    {f1 : Addr} {od1 an1 : Option Addr} {sl1 : Array (Option Value)} {oc1 kV1 dc1 pm1 cd1 ct1 : Value}
    {f2 : Addr} {od2 an2 : Option Addr} {sl2 : Array (Option Value)} {oc2 kV2 dc2 pm2 cd2 ct2 : Value}
    {f3 : Addr} {od3 an3 : Option Addr} {sl3 : Array (Option Value)} {oc3 kV3 dc3 pm3 cd3 ct3 : Value}
    {f4 : Addr} {od4 an4 : Option Addr} {sl4 : Array (Option Value)} {oc4 kV4 dc4 pm4 cd4 ct4 : Value}
    {f5 : Addr} {od5 an5 : Option Addr} {sl5 : Array (Option Value)} {oc5 kV5 dc5 pm5 cd5 ct5 : Value}
    {f6 : Addr} {od6 an6 : Option Addr} {sl6 : Array (Option Value)} {oc6 kV6 dc6 pm6 cd6 ct6 : Value}
    {f7 : Addr} {od7 an7 : Option Addr} {sl7 : Array (Option Value)} {oc7 kV7 dc7 pm7 cd7 ct7 : Value}
    {f8 : Addr} {od8 an8 : Option Addr} {sl8 : Array (Option Value)} {oc8 kV8 dc8 pm8 cd8 ct8 : Value}
    {f9 : Addr} {od9 an9 : Option Addr} {sl9 : Array (Option Value)} {oc9 kV9 dc9 pm9 cd9 ct9 : Value}
    {f10 : Addr} {od10 an10 : Option Addr} {sl10 : Array (Option Value)} {oc10 kV10 dc10 pm10 cd10 ct10 : Value}
    {f11 : Addr} {od11 an11 : Option Addr} {sl11 : Array (Option Value)} {oc11 kV11 dc11 pm11 cd11 ct11 : Value}
    {f12 : Addr} {od12 an12 : Option Addr} {sl12 : Array (Option Value)} {oc12 kV12 dc12 pm12 cd12 ct12 : Value}
    {C_AheadError : Addr}
    {C_InvalidBook : Addr}
    {C_InvalidItem : Addr}
    {C_InvalidProgram : Addr}
    {C_InvalidSender : Addr}
    {C_InvalidServer : Addr}
    {C_InvalidFacts : Addr}
    {C_InvalidRow : Addr}
    {C_InvalidStand : Addr}
    {C_InvalidOperation : Addr}
    {C_ParseError : Addr}
    {I_ParseError ca_ParseError cc_ParseError : Addr} {odi_ParseError ani_ParseError cdd_ParseError cld_ParseError : Option Addr} {sli_ParseError ccs_ParseError csl_ParseError : Array (Option Value)} {oci_ParseError kVi_ParseError dci_ParseError pmi_ParseError cti_ParseError ccl_ParseError cl_ParseError : Value} {vs_ParseError : Array Value} {fi_ParseError : Str} {tf_ParseError : Tok}
    {C_UnknownName : Addr}
    {I_UnknownName ca_UnknownName cc_UnknownName : Addr} {odi_UnknownName ani_UnknownName cdd_UnknownName cld_UnknownName : Option Addr} {sli_UnknownName ccs_UnknownName csl_UnknownName : Array (Option Value)} {oci_UnknownName kVi_UnknownName dci_UnknownName pmi_UnknownName cti_UnknownName ccl_UnknownName cl_UnknownName : Value} {vs_UnknownName : Array Value} {fi_UnknownName : Str} {tf_UnknownName : Tok}
    {C_InvalidNumber : Addr}
    {I_InvalidNumber ca_InvalidNumber cc_InvalidNumber : Addr} {odi_InvalidNumber ani_InvalidNumber cdd_InvalidNumber cld_InvalidNumber : Option Addr} {sli_InvalidNumber ccs_InvalidNumber csl_InvalidNumber : Array (Option Value)} {oci_InvalidNumber kVi_InvalidNumber dci_InvalidNumber pmi_InvalidNumber cti_InvalidNumber ccl_InvalidNumber cl_InvalidNumber : Value} {vs_InvalidNumber : Array Value} {fi_InvalidNumber : Str} {tf_InvalidNumber : Tok}
    {C_NothingToUndo : Addr}
    {I_NothingToUndo ca_NothingToUndo cc_NothingToUndo : Addr} {odi_NothingToUndo ani_NothingToUndo cdd_NothingToUndo cld_NothingToUndo : Option Addr} {sli_NothingToUndo ccs_NothingToUndo csl_NothingToUndo : Array (Option Value)} {oci_NothingToUndo kVi_NothingToUndo dci_NothingToUndo pmi_NothingToUndo cti_NothingToUndo ccl_NothingToUndo cl_NothingToUndo : Value} {vs_NothingToUndo : Array Value} {fi_NothingToUndo : Str} {tf_NothingToUndo : Tok}
    {C_TooMany : Addr}
    {I_TooMany ca_TooMany cc_TooMany : Addr} {odi_TooMany ani_TooMany cdd_TooMany cld_TooMany : Option Addr} {sli_TooMany ccs_TooMany csl_TooMany : Array (Option Value)} {oci_TooMany kVi_TooMany dci_TooMany pmi_TooMany cti_TooMany ccl_TooMany cl_TooMany : Value} {vs_TooMany : Array Value} {fi_TooMany : Str} {tf_TooMany : Tok}
    {C_Unlike : Addr}
    {I_Unlike ca_Unlike cc_Unlike : Addr} {odi_Unlike ani_Unlike cdd_Unlike cld_Unlike : Option Addr} {sli_Unlike ccs_Unlike csl_Unlike : Array (Option Value)} {oci_Unlike kVi_Unlike dci_Unlike pmi_Unlike cti_Unlike ccl_Unlike cl_Unlike : Value} {vs_Unlike : Array Value} {fi_Unlike : Str} {tf_Unlike : Tok}
    (z_super : PySem.W.nsIn K mainGlobals "super" = some none)
    (a0 : PySem.W.nsIn K mainGlobals "_law_dice" = some (some (.ref f0))) (l0 : K.lookup f0 = some ⟨oc0, od0, .func (PySem.W.fnOf "_law_dice" "_law_dice" (defArgs s__law_dice) (defBody s__law_dice) (defScope s__law_dice) .none kV0 dc0 pm0 an0 cd0 ct0), sl0⟩) (c0 : PySem.W.codeIn K cd0 "_law_dice" = true) (k0 : PySem.W.keepIn K (.ref f0) = true)
    (a1 : PySem.W.nsIn K mainGlobals "_law_roll" = some (some (.ref f1))) (l1 : K.lookup f1 = some ⟨oc1, od1, .func (PySem.W.fnOf "_law_roll" "_law_roll" (defArgs s__law_roll) (defBody s__law_roll) (defScope s__law_roll) .none kV1 dc1 pm1 an1 cd1 ct1), sl1⟩) (c1 : PySem.W.codeIn K cd1 "_law_roll" = true) (k1 : PySem.W.keepIn K (.ref f1) = true)
    (a2 : PySem.W.nsIn K mainGlobals "_law_one_of" = some (some (.ref f2))) (l2 : K.lookup f2 = some ⟨oc2, od2, .func (PySem.W.fnOf "_law_one_of" "_law_one_of" (defArgs s__law_one_of) (defBody s__law_one_of) (defScope s__law_one_of) .none kV2 dc2 pm2 an2 cd2 ct2), sl2⟩) (c2 : PySem.W.codeIn K cd2 "_law_one_of" = true) (k2 : PySem.W.keepIn K (.ref f2) = true)
    (a3 : PySem.W.nsIn K mainGlobals "_law_name" = some (some (.ref f3))) (l3 : K.lookup f3 = some ⟨oc3, od3, .func (PySem.W.fnOf "_law_name" "_law_name" (defArgs s__law_name) (defBody s__law_name) (defScope s__law_name) .none kV3 dc3 pm3 an3 cd3 ct3), sl3⟩) (c3 : PySem.W.codeIn K cd3 "_law_name" = true) (k3 : PySem.W.keepIn K (.ref f3) = true)
    (a4 : PySem.W.nsIn K mainGlobals "_law_names" = some (some (.ref f4))) (l4 : K.lookup f4 = some ⟨oc4, od4, .func (PySem.W.fnOf "_law_names" "_law_names" (defArgs s__law_names) (defBody s__law_names) (defScope s__law_names) .none kV4 dc4 pm4 an4 cd4 ct4), sl4⟩) (c4 : PySem.W.codeIn K cd4 "_law_names" = true) (k4 : PySem.W.keepIn K (.ref f4) = true)
    (a5 : PySem.W.nsIn K mainGlobals "_law_kinds" = some (some (.ref f5))) (l5 : K.lookup f5 = some ⟨oc5, od5, .func (PySem.W.fnOf "_law_kinds" "_law_kinds" (defArgs s__law_kinds) (defBody s__law_kinds) (defScope s__law_kinds) .none kV5 dc5 pm5 an5 cd5 ct5), sl5⟩) (c5 : PySem.W.codeIn K cd5 "_law_kinds" = true) (k5 : PySem.W.keepIn K (.ref f5) = true)
    (a6 : PySem.W.nsIn K mainGlobals "_law_bases" = some (some (.ref f6))) (l6 : K.lookup f6 = some ⟨oc6, od6, .func (PySem.W.fnOf "_law_bases" "_law_bases" (defArgs s__law_bases) (defBody s__law_bases) (defScope s__law_bases) .none kV6 dc6 pm6 an6 cd6 ct6), sl6⟩) (c6 : PySem.W.codeIn K cd6 "_law_bases" = true) (k6 : PySem.W.keepIn K (.ref f6) = true)
    (a7 : PySem.W.nsIn K mainGlobals "_law_raise" = some (some (.ref f7))) (l7 : K.lookup f7 = some ⟨oc7, od7, .func (PySem.W.fnOf "_law_raise" "_law_raise" (defArgs s__law_raise) (defBody s__law_raise) (defScope s__law_raise) .none kV7 dc7 pm7 an7 cd7 ct7), sl7⟩) (c7 : PySem.W.codeIn K cd7 "_law_raise" = true) (k7 : PySem.W.keepIn K (.ref f7) = true)
    (a8 : PySem.W.nsIn K mainGlobals "_law_raise_more" = some (some (.ref f8))) (l8 : K.lookup f8 = some ⟨oc8, od8, .func (PySem.W.fnOf "_law_raise_more" "_law_raise_more" (defArgs s__law_raise_more) (defBody s__law_raise_more) (defScope s__law_raise_more) .none kV8 dc8 pm8 an8 cd8 ct8), sl8⟩) (c8 : PySem.W.codeIn K cd8 "_law_raise_more" = true) (k8 : PySem.W.keepIn K (.ref f8) = true)
    (a9 : PySem.W.nsIn K mainGlobals "_law_first_handler" = some (some (.ref f9))) (l9 : K.lookup f9 = some ⟨oc9, od9, .func (PySem.W.fnOf "_law_first_handler" "_law_first_handler" (defArgs s__law_first_handler) (defBody s__law_first_handler) (defScope s__law_first_handler) .none kV9 dc9 pm9 an9 cd9 ct9), sl9⟩) (c9 : PySem.W.codeIn K cd9 "_law_first_handler" = true) (k9 : PySem.W.keepIn K (.ref f9) = true)
    (a10 : PySem.W.nsIn K mainGlobals "_law_by_base" = some (some (.ref f10))) (l10 : K.lookup f10 = some ⟨oc10, od10, .func (PySem.W.fnOf "_law_by_base" "_law_by_base" (defArgs s__law_by_base) (defBody s__law_by_base) (defScope s__law_by_base) .none kV10 dc10 pm10 an10 cd10 ct10), sl10⟩) (c10 : PySem.W.codeIn K cd10 "_law_by_base" = true) (k10 : PySem.W.keepIn K (.ref f10) = true)
    (a11 : PySem.W.nsIn K mainGlobals "_law_right" = some (some (.ref f11))) (l11 : K.lookup f11 = some ⟨oc11, od11, .func (PySem.W.fnOf "_law_right" "_law_right" (defArgs s__law_right) (defBody s__law_right) (defScope s__law_right) .none kV11 dc11 pm11 an11 cd11 ct11), sl11⟩) (c11 : PySem.W.codeIn K cd11 "_law_right" = true) (k11 : PySem.W.keepIn K (.ref f11) = true)
    (a12 : PySem.W.nsIn K mainGlobals "law" = some (some (.ref f12))) (l12 : K.lookup f12 = some ⟨oc12, od12, .func (PySem.W.fnOf "law" "law" (defArgs s_law) (defBody s_law) (defScope s_law) .none kV12 dc12 pm12 an12 cd12 ct12), sl12⟩) (c12 : PySem.W.codeIn K cd12 "law" = true) (k12 : PySem.W.keepIn K (.ref f12) = true)
    (z_IndexError : PySem.W.nsIn K mainGlobals "IndexError" = some none)
    (z_KeyError : PySem.W.nsIn K mainGlobals "KeyError" = some none)
    (z_LookupError : PySem.W.nsIn K mainGlobals "LookupError" = some none)
    (z_OverflowError : PySem.W.nsIn K mainGlobals "OverflowError" = some none)
    (z_RuntimeError : PySem.W.nsIn K mainGlobals "RuntimeError" = some none)
    (z_ValueError : PySem.W.nsIn K mainGlobals "ValueError" = some none)
    (z_abs : PySem.W.nsIn K mainGlobals "abs" = some none)
    (z_enumerate : PySem.W.nsIn K mainGlobals "enumerate" = some none)
    (z_int : PySem.W.nsIn K mainGlobals "int" = some none)
    (z_isinstance : PySem.W.nsIn K mainGlobals "isinstance" = some none)
    (z_len : PySem.W.nsIn K mainGlobals "len" = some none)
    (z_max : PySem.W.nsIn K mainGlobals "max" = some none)
    (z_min : PySem.W.nsIn K mainGlobals "min" = some none)
    (z_range : PySem.W.nsIn K mainGlobals "range" = some none)
    (z_repr : PySem.W.nsIn K mainGlobals "repr" = some none)
    (z_tuple : PySem.W.nsIn K mainGlobals "tuple" = some none)
    (xa_AheadError : PySem.W.nsIn K mainGlobals "AheadError" = some (some (.ref C_AheadError)))
    (xb_AheadError : own0B K C_AheadError "ValueError.__new__" tlVE = true)
    (xa_InvalidBook : PySem.W.nsIn K mainGlobals "InvalidBook" = some (some (.ref C_InvalidBook)))
    (xb_InvalidBook : own0B K C_InvalidBook "ValueError.__new__" tlVE = true)
    (xa_InvalidItem : PySem.W.nsIn K mainGlobals "InvalidItem" = some (some (.ref C_InvalidItem)))
    (xb_InvalidItem : own0B K C_InvalidItem "ValueError.__new__" tlVE = true)
    (xa_InvalidProgram : PySem.W.nsIn K mainGlobals "InvalidProgram" = some (some (.ref C_InvalidProgram)))
    (xb_InvalidProgram : own0B K C_InvalidProgram "ValueError.__new__" tlVE = true)
    (xa_InvalidSender : PySem.W.nsIn K mainGlobals "InvalidSender" = some (some (.ref C_InvalidSender)))
    (xb_InvalidSender : own0B K C_InvalidSender "ValueError.__new__" tlVE = true)
    (xa_InvalidServer : PySem.W.nsIn K mainGlobals "InvalidServer" = some (some (.ref C_InvalidServer)))
    (xb_InvalidServer : own0B K C_InvalidServer "ValueError.__new__" tlVE = true)
    (xa_InvalidFacts : PySem.W.nsIn K mainGlobals "InvalidFacts" = some (some (.ref C_InvalidFacts)))
    (xb_InvalidFacts : own0B K C_InvalidFacts "ValueError.__new__" tlVE = true)
    (xa_InvalidRow : PySem.W.nsIn K mainGlobals "InvalidRow" = some (some (.ref C_InvalidRow)))
    (xb_InvalidRow : own0B K C_InvalidRow "ValueError.__new__" tlVE = true)
    (xa_InvalidStand : PySem.W.nsIn K mainGlobals "InvalidStand" = some (some (.ref C_InvalidStand)))
    (xb_InvalidStand : own0B K C_InvalidStand "ValueError.__new__" tlVE = true)
    (xa_InvalidOperation : PySem.W.nsIn K mainGlobals "InvalidOperation" = some (some (.ref C_InvalidOperation)))
    (xb_InvalidOperation : own0B K C_InvalidOperation "ValueError.__new__" tlVE = true)
    (xa_ParseError : PySem.W.nsIn K mainGlobals "ParseError" = some (some (.ref C_ParseError)))
    (xi_ParseError : PySem.W.findIn K (.ref C_ParseError) "__init__" = some (some (.ref I_ParseError)))
    (xl_ParseError : K.lookup I_ParseError = some ⟨oci_ParseError, odi_ParseError, .func (PySem.W.fnX "__init__" "ParseError.__init__" (defArgs s_ParseError_init) (defBody s_ParseError_init) (defScope s_ParseError_init) [("__class__", cc_ParseError)] .none kVi_ParseError dci_ParseError pmi_ParseError ani_ParseError (.ref ca_ParseError) cti_ParseError), sli_ParseError⟩)
    (xd_ParseError : PySem.W.codeIn K (.ref ca_ParseError) "ParseError.__init__" = true)
    (xo_ParseError : K.lookup ca_ParseError = some ⟨ccl_ParseError, cdd_ParseError, .fields vs_ParseError, ccs_ParseError⟩)
    (xv_ParseError : vs_ParseError[2]? = some (.str fi_ParseError tf_ParseError))
    (xf_ParseError : ((prog0.main.file : Str) == fi_ParseError) = true)
    (xc_ParseError : K.lookup cc_ParseError = some ⟨cl_ParseError, cld_ParseError, .cell (some (.ref C_ParseError)), csl_ParseError⟩)
    (xb_ParseError : own1B K C_ParseError I_ParseError "ValueError" "ValueError.__new__" "ValueError.__init__" tlVE "number" = true)
    (xa_UnknownName : PySem.W.nsIn K mainGlobals "UnknownName" = some (some (.ref C_UnknownName)))
    (xi_UnknownName : PySem.W.findIn K (.ref C_UnknownName) "__init__" = some (some (.ref I_UnknownName)))
    (xl_UnknownName : K.lookup I_UnknownName = some ⟨oci_UnknownName, odi_UnknownName, .func (PySem.W.fnX "__init__" "UnknownName.__init__" (defArgs s_UnknownName_init) (defBody s_UnknownName_init) (defScope s_UnknownName_init) [("__class__", cc_UnknownName)] .none kVi_UnknownName dci_UnknownName pmi_UnknownName ani_UnknownName (.ref ca_UnknownName) cti_UnknownName), sli_UnknownName⟩)
    (xd_UnknownName : PySem.W.codeIn K (.ref ca_UnknownName) "UnknownName.__init__" = true)
    (xo_UnknownName : K.lookup ca_UnknownName = some ⟨ccl_UnknownName, cdd_UnknownName, .fields vs_UnknownName, ccs_UnknownName⟩)
    (xv_UnknownName : vs_UnknownName[2]? = some (.str fi_UnknownName tf_UnknownName))
    (xf_UnknownName : ((prog0.main.file : Str) == fi_UnknownName) = true)
    (xc_UnknownName : K.lookup cc_UnknownName = some ⟨cl_UnknownName, cld_UnknownName, .cell (some (.ref C_UnknownName)), csl_UnknownName⟩)
    (xb_UnknownName : own1B K C_UnknownName I_UnknownName "KeyError" "LookupError.__new__" "KeyError.__init__" tlKE "name" = true)
    (xa_InvalidNumber : PySem.W.nsIn K mainGlobals "InvalidNumber" = some (some (.ref C_InvalidNumber)))
    (xi_InvalidNumber : PySem.W.findIn K (.ref C_InvalidNumber) "__init__" = some (some (.ref I_InvalidNumber)))
    (xl_InvalidNumber : K.lookup I_InvalidNumber = some ⟨oci_InvalidNumber, odi_InvalidNumber, .func (PySem.W.fnX "__init__" "InvalidNumber.__init__" (defArgs s_InvalidNumber_init) (defBody s_InvalidNumber_init) (defScope s_InvalidNumber_init) [("__class__", cc_InvalidNumber)] .none kVi_InvalidNumber dci_InvalidNumber pmi_InvalidNumber ani_InvalidNumber (.ref ca_InvalidNumber) cti_InvalidNumber), sli_InvalidNumber⟩)
    (xd_InvalidNumber : PySem.W.codeIn K (.ref ca_InvalidNumber) "InvalidNumber.__init__" = true)
    (xo_InvalidNumber : K.lookup ca_InvalidNumber = some ⟨ccl_InvalidNumber, cdd_InvalidNumber, .fields vs_InvalidNumber, ccs_InvalidNumber⟩)
    (xv_InvalidNumber : vs_InvalidNumber[2]? = some (.str fi_InvalidNumber tf_InvalidNumber))
    (xf_InvalidNumber : ((prog0.main.file : Str) == fi_InvalidNumber) = true)
    (xc_InvalidNumber : K.lookup cc_InvalidNumber = some ⟨cl_InvalidNumber, cld_InvalidNumber, .cell (some (.ref C_InvalidNumber)), csl_InvalidNumber⟩)
    (xb_InvalidNumber : own1B K C_InvalidNumber I_InvalidNumber "IndexError" "IndexError.__new__" "IndexError.__init__" tlIE "value" = true)
    (xa_NothingToUndo : PySem.W.nsIn K mainGlobals "NothingToUndo" = some (some (.ref C_NothingToUndo)))
    (xi_NothingToUndo : PySem.W.findIn K (.ref C_NothingToUndo) "__init__" = some (some (.ref I_NothingToUndo)))
    (xl_NothingToUndo : K.lookup I_NothingToUndo = some ⟨oci_NothingToUndo, odi_NothingToUndo, .func (PySem.W.fnX "__init__" "NothingToUndo.__init__" (defArgs s_NothingToUndo_init) (defBody s_NothingToUndo_init) (defScope s_NothingToUndo_init) [("__class__", cc_NothingToUndo)] .none kVi_NothingToUndo dci_NothingToUndo pmi_NothingToUndo ani_NothingToUndo (.ref ca_NothingToUndo) cti_NothingToUndo), sli_NothingToUndo⟩)
    (xd_NothingToUndo : PySem.W.codeIn K (.ref ca_NothingToUndo) "NothingToUndo.__init__" = true)
    (xo_NothingToUndo : K.lookup ca_NothingToUndo = some ⟨ccl_NothingToUndo, cdd_NothingToUndo, .fields vs_NothingToUndo, ccs_NothingToUndo⟩)
    (xv_NothingToUndo : vs_NothingToUndo[2]? = some (.str fi_NothingToUndo tf_NothingToUndo))
    (xf_NothingToUndo : ((prog0.main.file : Str) == fi_NothingToUndo) = true)
    (xc_NothingToUndo : K.lookup cc_NothingToUndo = some ⟨cl_NothingToUndo, cld_NothingToUndo, .cell (some (.ref C_NothingToUndo)), csl_NothingToUndo⟩)
    (xb_NothingToUndo : own1B K C_NothingToUndo I_NothingToUndo "LookupError" "LookupError.__new__" "LookupError.__init__" tlLE "many" = true)
    (xa_TooMany : PySem.W.nsIn K mainGlobals "TooMany" = some (some (.ref C_TooMany)))
    (xi_TooMany : PySem.W.findIn K (.ref C_TooMany) "__init__" = some (some (.ref I_TooMany)))
    (xl_TooMany : K.lookup I_TooMany = some ⟨oci_TooMany, odi_TooMany, .func (PySem.W.fnX "__init__" "TooMany.__init__" (defArgs s_TooMany_init) (defBody s_TooMany_init) (defScope s_TooMany_init) [("__class__", cc_TooMany)] .none kVi_TooMany dci_TooMany pmi_TooMany ani_TooMany (.ref ca_TooMany) cti_TooMany), sli_TooMany⟩)
    (xd_TooMany : PySem.W.codeIn K (.ref ca_TooMany) "TooMany.__init__" = true)
    (xo_TooMany : K.lookup ca_TooMany = some ⟨ccl_TooMany, cdd_TooMany, .fields vs_TooMany, ccs_TooMany⟩)
    (xv_TooMany : vs_TooMany[2]? = some (.str fi_TooMany tf_TooMany))
    (xf_TooMany : ((prog0.main.file : Str) == fi_TooMany) = true)
    (xc_TooMany : K.lookup cc_TooMany = some ⟨cl_TooMany, cld_TooMany, .cell (some (.ref C_TooMany)), csl_TooMany⟩)
    (xb_TooMany : own1B K C_TooMany I_TooMany "OverflowError" "OverflowError.__new__" "OverflowError.__init__" tlOE "limit" = true)
    (xa_Unlike : PySem.W.nsIn K mainGlobals "Unlike" = some (some (.ref C_Unlike)))
    (xi_Unlike : PySem.W.findIn K (.ref C_Unlike) "__init__" = some (some (.ref I_Unlike)))
    (xl_Unlike : K.lookup I_Unlike = some ⟨oci_Unlike, odi_Unlike, .func (PySem.W.fnX "__init__" "Unlike.__init__" (defArgs s_Unlike_init) (defBody s_Unlike_init) (defScope s_Unlike_init) [("__class__", cc_Unlike)] .none kVi_Unlike dci_Unlike pmi_Unlike ani_Unlike (.ref ca_Unlike) cti_Unlike), sli_Unlike⟩)
    (xd_Unlike : PySem.W.codeIn K (.ref ca_Unlike) "Unlike.__init__" = true)
    (xo_Unlike : K.lookup ca_Unlike = some ⟨ccl_Unlike, cdd_Unlike, .fields vs_Unlike, ccs_Unlike⟩)
    (xv_Unlike : vs_Unlike[2]? = some (.str fi_Unlike tf_Unlike))
    (xf_Unlike : ((prog0.main.file : Str) == fi_Unlike) = true)
    (xc_Unlike : K.lookup cc_Unlike = some ⟨cl_Unlike, cld_Unlike, .cell (some (.ref C_Unlike)), csl_Unlike⟩)
    (xb_Unlike : own1B K C_Unlike I_Unlike "RuntimeError" "RuntimeError.__new__" "RuntimeError.__init__" tlRE "row" = true)
    (xt_C : isTab K [C_AheadError, C_InvalidBook, C_InvalidItem, C_InvalidProgram, C_InvalidSender, C_InvalidServer, C_InvalidFacts, C_InvalidRow, C_InvalidStand, C_InvalidOperation, C_ParseError, C_UnknownName, C_InvalidNumber, C_NothingToUndo, C_TooMany, C_Unlike] [.ref C_AheadError, .ref C_InvalidBook, .ref C_InvalidItem, .ref C_InvalidProgram, .ref C_InvalidSender, .ref C_InvalidServer, .ref C_InvalidFacts, .ref C_InvalidRow, .ref C_InvalidStand, .ref C_InvalidOperation, .ref C_ParseError, .ref C_UnknownName, .ref C_InvalidNumber, .ref C_NothingToUndo, .ref C_TooMany, .ref C_Unlike] = [[some true, some false, some false, some false, some false, some false, some false, some false, some false, some false, some false, some false, some false, some false, some false, some false], [some true, some true, some false, some false, some false, some false, some false, some false, some false, some false, some false, some false, some false, some false, some false, some false], [some true, some false, some true, some false, some false, some false, some false, some false, some false, some false, some false, some false, some false, some false, some false, some false], [some true, some false, some false, some true, some false, some false, some false, some false, some false, some false, some false, some false, some false, some false, some false, some false], [some true, some false, some false, some false, some true, some false, some false, some false, some false, some false, some false, some false, some false, some false, some false, some false], [some true, some false, some false, some false, some false, some true, some false, some false, some false, some false, some false, some false, some false, some false, some false, some false], [some true, some false, some false, some false, some false, some false, some true, some false, some false, some false, some false, some false, some false, some false, some false, some false], [some true, some false, some false, some false, some false, some false, some false, some true, some false, some false, some false, some false, some false, some false, some false, some false], [some true, some false, some false, some false, some false, some false, some false, some false, some true, some false, some false, some false, some false, some false, some false, some false], [some true, some false, some false, some false, some false, some false, some false, some false, some false, some true, some false, some false, some false, some false, some false, some false], [some true, some false, some false, some false, some false, some false, some false, some false, some false, some false, some true, some false, some false, some false, some false, some false], [some false, some false, some false, some false, some false, some false, some false, some false, some false, some false, some false, some true, some false, some false, some false, some false], [some false, some false, some false, some false, some false, some false, some false, some false, some false, some false, some false, some false, some true, some false, some false, some false], [some false, some false, some false, some false, some false, some false, some false, some false, some false, some false, some false, some false, some false, some true, some false, some false], [some false, some false, some false, some false, some false, some false, some false, some false, some false, some false, some false, some false, some false, some false, some true, some false], [some false, some false, some false, some false, some false, some false, some false, some false, some false, some false, some false, some false, some false, some false, some false, some true]])
    (xt_B : isTab K [C_AheadError, C_InvalidBook, C_InvalidItem, C_InvalidProgram, C_InvalidSender, C_InvalidServer, C_InvalidFacts, C_InvalidRow, C_InvalidStand, C_InvalidOperation, C_ParseError, C_UnknownName, C_InvalidNumber, C_NothingToUndo, C_TooMany, C_Unlike] [.type "ValueError", .type "KeyError", .type "IndexError", .type "LookupError", .type "OverflowError", .type "RuntimeError"] = [[some true, some false, some false, some false, some false, some false], [some true, some false, some false, some false, some false, some false], [some true, some false, some false, some false, some false, some false], [some true, some false, some false, some false, some false, some false], [some true, some false, some false, some false, some false, some false], [some true, some false, some false, some false, some false, some false], [some true, some false, some false, some false, some false, some false], [some true, some false, some false, some false, some false, some false], [some true, some false, some false, some false, some false, some false], [some true, some false, some false, some false, some false, some false], [some true, some false, some false, some false, some false, some false], [some false, some true, some false, some true, some false, some false], [some false, some false, some true, some true, some false, some false], [some false, some false, some false, some true, some false, some false], [some false, some false, some false, some false, some true, some false], [some false, some false, some false, some false, some false, some true]])
    (xt_E : exTab K [C_AheadError, C_InvalidBook, C_InvalidItem, C_InvalidProgram, C_InvalidSender, C_InvalidServer, C_InvalidFacts, C_InvalidRow, C_InvalidStand, C_InvalidOperation, C_ParseError, C_UnknownName, C_InvalidNumber, C_NothingToUndo, C_TooMany, C_Unlike] = [[some true, some false, some false, some false, some false, some false, some false, some false, some false, some false, some false, some false, some false, some false, some false, some false], [some true, some true, some false, some false, some false, some false, some false, some false, some false, some false, some false, some false, some false, some false, some false, some false], [some true, some false, some true, some false, some false, some false, some false, some false, some false, some false, some false, some false, some false, some false, some false, some false], [some true, some false, some false, some true, some false, some false, some false, some false, some false, some false, some false, some false, some false, some false, some false, some false], [some true, some false, some false, some false, some true, some false, some false, some false, some false, some false, some false, some false, some false, some false, some false, some false], [some true, some false, some false, some false, some false, some true, some false, some false, some false, some false, some false, some false, some false, some false, some false, some false], [some true, some false, some false, some false, some false, some false, some true, some false, some false, some false, some false, some false, some false, some false, some false, some false], [some true, some false, some false, some false, some false, some false, some false, some true, some false, some false, some false, some false, some false, some false, some false, some false], [some true, some false, some false, some false, some false, some false, some false, some false, some true, some false, some false, some false, some false, some false, some false, some false], [some true, some false, some false, some false, some false, some false, some false, some false, some false, some true, some false, some false, some false, some false, some false, some false], [some true, some false, some false, some false, some false, some false, some false, some false, some false, some false, some true, some false, some false, some false, some false, some false], [some false, some false, some false, some false, some false, some false, some false, some false, some false, some false, some false, some true, some false, some false, some false, some false], [some false, some false, some false, some false, some false, some false, some false, some false, some false, some false, some false, some false, some true, some false, some false, some false], [some false, some false, some false, some false, some false, some false, some false, some false, some false, some false, some false, some false, some false, some true, some false, some false], [some false, some false, some false, some false, some false, some false, some false, some false, some false, some false, some false, some false, some false, some false, some true, some false], [some false, some false, some false, some false, some false, some false, some false, some false, some false, some false, some false, some false, some false, some false, some false, some true]])
    : ∃ fd : FuncData, (∀ (s : Shared) (v : Value), BindsTo s fd ⟨[v], []⟩ [("script", v)]) ∧ ∀ base : Heap, K.In base → base.Ns mainGlobals mg → FnG prog0 w K mg base CX0 10 fa fd ["script"] (sp_law K) := by
  have e := hfa.symm.trans (PySem.W.mg_of X G a12)
  cases e
  have T : ∃ T : Txt K mg, T.a_law = fa ∧ T.d_law = PySem.W.fnOf "law" "law" (defArgs s_law) (defBody s_law) (defScope s_law) .none kV12 dc12 pm12 an12 cd12 ct12 := ⟨{
    a__law_dice := f0
    d__law_dice := _
    F__law_dice := fun_mk (st := s__law_dice) l0 c0 k0
    m__law_dice := PySem.W.mg_of X G a0
    b__law_dice := (fun_mk (st := s__law_dice) l0 c0 k0).binds (ps := ["script", "at"]) fun _ _ _ _ _ _ us hl => match us, hl with | [_, _], _ => rfl
    a__law_roll := f1
    d__law_roll := _
    F__law_roll := fun_mk (st := s__law_roll) l1 c1 k1
    m__law_roll := PySem.W.mg_of X G a1
    b__law_roll := (fun_mk (st := s__law_roll) l1 c1 k1).binds (ps := ["dice", "total"]) fun _ _ _ _ _ _ us hl => match us, hl with | [_, _], _ => rfl
    a__law_one_of := f2
    d__law_one_of := _
    F__law_one_of := fun_mk (st := s__law_one_of) l2 c2 k2
    m__law_one_of := PySem.W.mg_of X G a2
    b__law_one_of := (fun_mk (st := s__law_one_of) l2 c2 k2).binds (ps := ["dice", "items"]) fun _ _ _ _ _ _ us hl => match us, hl with | [_, _], _ => rfl
    a__law_name := f3
    d__law_name := _
    F__law_name := fun_mk (st := s__law_name) l3 c3 k3
    m__law_name := PySem.W.mg_of X G a3
    b__law_name := (fun_mk (st := s__law_name) l3 c3 k3).binds (ps := ["dice", "taken"]) fun _ _ _ _ _ _ us hl => match us, hl with | [_, _], _ => rfl
    a__law_names := f4
    d__law_names := _
    F__law_names := fun_mk (st := s__law_names) l4 c4 k4
    m__law_names := PySem.W.mg_of X G a4
    b__law_names := (fun_mk (st := s__law_names) l4 c4 k4).binds (ps := ["dice", "size"]) fun _ _ _ _ _ _ us hl => match us, hl with | [_, _], _ => rfl
    a__law_kinds := f5
    d__law_kinds := _
    F__law_kinds := fun_mk (st := s__law_kinds) l5 c5 k5
    m__law_kinds := PySem.W.mg_of X G a5
    b__law_kinds := (fun_mk (st := s__law_kinds) l5 c5 k5).binds (ps := ["e"]) fun _ _ _ _ _ _ us hl => match us, hl with | [_], _ => rfl
    a__law_bases := f6
    d__law_bases := _
    F__law_bases := fun_mk (st := s__law_bases) l6 c6 k6
    m__law_bases := PySem.W.mg_of X G a6
    b__law_bases := (fun_mk (st := s__law_bases) l6 c6 k6).binds (ps := ["e"]) fun _ _ _ _ _ _ us hl => match us, hl with | [_], _ => rfl
    a__law_raise := f7
    d__law_raise := _
    F__law_raise := fun_mk (st := s__law_raise) l7 c7 k7
    m__law_raise := PySem.W.mg_of X G a7
    b__law_raise := (fun_mk (st := s__law_raise) l7 c7 k7).binds (ps := ["kind", "value"]) fun _ _ _ _ _ _ us hl => match us, hl with | [_, _], _ => rfl
    a__law_raise_more := f8
    d__law_raise_more := _
    F__law_raise_more := fun_mk (st := s__law_raise_more) l8 c8 k8
    m__law_raise_more := PySem.W.mg_of X G a8
    b__law_raise_more := (fun_mk (st := s__law_raise_more) l8 c8 k8).binds (ps := ["kind", "value"]) fun _ _ _ _ _ _ us hl => match us, hl with | [_, _], _ => rfl
    a__law_first_handler := f9
    d__law_first_handler := _
    F__law_first_handler := fun_mk (st := s__law_first_handler) l9 c9 k9
    m__law_first_handler := PySem.W.mg_of X G a9
    b__law_first_handler := (fun_mk (st := s__law_first_handler) l9 c9 k9).binds (ps := ["kind", "value"]) fun _ _ _ _ _ _ us hl => match us, hl with | [_, _], _ => rfl
    a__law_by_base := f10
    d__law_by_base := _
    F__law_by_base := fun_mk (st := s__law_by_base) l10 c10 k10
    m__law_by_base := PySem.W.mg_of X G a10
    b__law_by_base := (fun_mk (st := s__law_by_base) l10 c10 k10).binds (ps := ["kind", "value"]) fun _ _ _ _ _ _ us hl => match us, hl with | [_, _], _ => rfl
    a__law_right := f11
    d__law_right := _
    F__law_right := fun_mk (st := s__law_right) l11 c11 k11
    m__law_right := PySem.W.mg_of X G a11
    b__law_right := (fun_mk (st := s__law_right) l11 c11 k11).binds (ps := ["dice"]) fun _ _ _ _ _ _ us hl => match us, hl with | [_], _ => rfl
    a_law := fa
    d_law := _
    F_law := fun_mk (st := s_law) l12 c12 k12
    m_law := PySem.W.mg_of X G a12
    b_law := (fun_mk (st := s_law) l12 c12 k12).binds (ps := ["script"]) fun _ _ _ _ _ _ us hl => match us, hl with | [_], _ => rfl
    z_IndexError := PySem.W.mg_none_of X G z_IndexError
    z_KeyError := PySem.W.mg_none_of X G z_KeyError
    z_LookupError := PySem.W.mg_none_of X G z_LookupError
    z_OverflowError := PySem.W.mg_none_of X G z_OverflowError
    z_RuntimeError := PySem.W.mg_none_of X G z_RuntimeError
    z_ValueError := PySem.W.mg_none_of X G z_ValueError
    z_abs := PySem.W.mg_none_of X G z_abs
    z_enumerate := PySem.W.mg_none_of X G z_enumerate
    z_int := PySem.W.mg_none_of X G z_int
    z_isinstance := PySem.W.mg_none_of X G z_isinstance
    z_len := PySem.W.mg_none_of X G z_len
    z_max := PySem.W.mg_none_of X G z_max
    z_min := PySem.W.mg_none_of X G z_min
    z_range := PySem.W.mg_none_of X G z_range
    z_repr := PySem.W.mg_none_of X G z_repr
    z_tuple := PySem.W.mg_none_of X G z_tuple
    c_AheadError := C_AheadError
    e_AheadError := own0_mk (PySem.W.mg_of X G xa_AheadError) xb_AheadError
    c_InvalidBook := C_InvalidBook
    e_InvalidBook := own0_mk (PySem.W.mg_of X G xa_InvalidBook) xb_InvalidBook
    c_InvalidItem := C_InvalidItem
    e_InvalidItem := own0_mk (PySem.W.mg_of X G xa_InvalidItem) xb_InvalidItem
    c_InvalidProgram := C_InvalidProgram
    e_InvalidProgram := own0_mk (PySem.W.mg_of X G xa_InvalidProgram) xb_InvalidProgram
    c_InvalidSender := C_InvalidSender
    e_InvalidSender := own0_mk (PySem.W.mg_of X G xa_InvalidSender) xb_InvalidSender
    c_InvalidServer := C_InvalidServer
    e_InvalidServer := own0_mk (PySem.W.mg_of X G xa_InvalidServer) xb_InvalidServer
    c_InvalidFacts := C_InvalidFacts
    e_InvalidFacts := own0_mk (PySem.W.mg_of X G xa_InvalidFacts) xb_InvalidFacts
    c_InvalidRow := C_InvalidRow
    e_InvalidRow := own0_mk (PySem.W.mg_of X G xa_InvalidRow) xb_InvalidRow
    c_InvalidStand := C_InvalidStand
    e_InvalidStand := own0_mk (PySem.W.mg_of X G xa_InvalidStand) xb_InvalidStand
    c_InvalidOperation := C_InvalidOperation
    e_InvalidOperation := own0_mk (PySem.W.mg_of X G xa_InvalidOperation) xb_InvalidOperation
    c_ParseError := C_ParseError
    i_ParseError := I_ParseError
    d_ParseError := _
    e_ParseError := own1_mk base_VE (PySem.W.mg_of X G xa_ParseError) xi_ParseError (supFn_mk (st := s_ParseError_init) xl_ParseError xd_ParseError xo_ParseError xv_ParseError xf_ParseError xc_ParseError (by decide +kernel) (PySem.W.mg_none_of X G z_super) (by rfl)) (Binds.all fun us hl => match us, hl with | [_, _], _ => rfl) xb_ParseError
    c_UnknownName := C_UnknownName
    i_UnknownName := I_UnknownName
    d_UnknownName := _
    e_UnknownName := own1_mk base_KE (PySem.W.mg_of X G xa_UnknownName) xi_UnknownName (supFn_mk (st := s_UnknownName_init) xl_UnknownName xd_UnknownName xo_UnknownName xv_UnknownName xf_UnknownName xc_UnknownName (by decide +kernel) (PySem.W.mg_none_of X G z_super) (by rfl)) (Binds.all fun us hl => match us, hl with | [_, _], _ => rfl) xb_UnknownName
    c_InvalidNumber := C_InvalidNumber
    i_InvalidNumber := I_InvalidNumber
    d_InvalidNumber := _
    e_InvalidNumber := own1_mk base_IE (PySem.W.mg_of X G xa_InvalidNumber) xi_InvalidNumber (supFn_mk (st := s_InvalidNumber_init) xl_InvalidNumber xd_InvalidNumber xo_InvalidNumber xv_InvalidNumber xf_InvalidNumber xc_InvalidNumber (by decide +kernel) (PySem.W.mg_none_of X G z_super) (by rfl)) (Binds.all fun us hl => match us, hl with | [_, _], _ => rfl) xb_InvalidNumber
    c_NothingToUndo := C_NothingToUndo
    i_NothingToUndo := I_NothingToUndo
    d_NothingToUndo := _
    e_NothingToUndo := own1_mk base_LE (PySem.W.mg_of X G xa_NothingToUndo) xi_NothingToUndo (supFn_mk (st := s_NothingToUndo_init) xl_NothingToUndo xd_NothingToUndo xo_NothingToUndo xv_NothingToUndo xf_NothingToUndo xc_NothingToUndo (by decide +kernel) (PySem.W.mg_none_of X G z_super) (by rfl)) (Binds.all fun us hl => match us, hl with | [_, _], _ => rfl) xb_NothingToUndo
    c_TooMany := C_TooMany
    i_TooMany := I_TooMany
    d_TooMany := _
    e_TooMany := own1_mk base_OE (PySem.W.mg_of X G xa_TooMany) xi_TooMany (supFn_mk (st := s_TooMany_init) xl_TooMany xd_TooMany xo_TooMany xv_TooMany xf_TooMany xc_TooMany (by decide +kernel) (PySem.W.mg_none_of X G z_super) (by rfl)) (Binds.all fun us hl => match us, hl with | [_, _], _ => rfl) xb_TooMany
    c_Unlike := C_Unlike
    i_Unlike := I_Unlike
    d_Unlike := _
    e_Unlike := own1_mk base_RE (PySem.W.mg_of X G xa_Unlike) xi_Unlike (supFn_mk (st := s_Unlike_init) xl_Unlike xd_Unlike xo_Unlike xv_Unlike xf_Unlike xc_Unlike (by decide +kernel) (PySem.W.mg_none_of X G z_super) (by rfl)) (Binds.all fun us hl => match us, hl with | [_, _], _ => rfl) xb_Unlike
    tabC := xt_C
    tabE := xt_E
    tabB := xt_B
    }, rfl, rfl⟩
  obtain ⟨T, e1, e2⟩ := T
  refine ⟨PySem.W.fnOf "law" "law" (defArgs s_law) (defBody s_law) (defScope s_law) .none kV12 dc12 pm12 an12 cd12 ct12, fun s v => .of_eq rfl, fun base _ _ => ?_⟩
  have r := ok_law (w := w) (base := base) T
  rw [e1, e2] at r
  exact r
theorem walk {l : PySem.W.OpenLaw} {q : Program} {loose : List Str} {XP : (Str → Option Value) → Heap → Prop} {YP : World → Heap → Prop} {d : DefRec} {K : Params → PySem.W.Frag} (hn : l.most = some 63) (hdf : d.params.defaults = [])
    (hY : ∀ (w : World) (h : Heap), YP w h → (K w.params).In h)
    (F : ∀ (w : World) (mg : Str → Option Value) (fa : Addr) (h : Heap), (K w.params).In h → h.Ns mainGlobals mg → mg d.name = some (.ref fa) →
      ∃ fd : FuncData, (∀ (s : Shared) (u : Value), BindsTo s fd ⟨[u], []⟩ [("script", u)]) ∧ ∀ base : Heap, (K w.params).In base → base.Ns mainGlobals mg → FnG l.prog w (K w.params) mg base CX0 10 fa fd ["script"] (sp_law (K w.params))) :
    PySem.W.WalkO q loose XP YP l.row.toRowW d [] (fun f vs => PySem.call f vs) :=
  law_walk (n := 63) (k := 10) (x := "script") (CX := fun _ => CX0) (sp := fun w => sp_law (K w.params)) hn (by decide) hdf ⟨rfl, by decide, by decide⟩ hY F (fun _ _ a ns hl hS => ⟨a, ns, rfl, hS, hl, fun _ => rfl⟩) fun _ _ _ _ _ z => z
end K00
open PySem PySem.W PyProof.Rows in
set_option maxRecDepth 100000 in
set_option maxHeartbeats 0 in
theorem PySem.Challenge.cw_skipahead_k00_errors_holds : PySem.Challenge.rw_skipahead_k00_errors.Holds := by
  w_on; o_law; k_head; (case hw => w_witness2)
  k_fill
  refine K00.walk (l := PySem.Challenge.rw_skipahead_k00_errors) rfl rfl (fun w h Y => PySem.W.kIn_of Y) ?F
  case F =>
    intro w mg fa h KX G hmg
    refine' K00.all_mk KX G hmg ?z_super ?a0 ?l0 ?c0 ?k0 ?a1 ?l1 ?c1 ?k1 ?a2 ?l2 ?c2 ?k2 ?a3 ?l3 ?c3 ?k3 ?a4 ?l4 ?c4 ?k4 ?a5 ?l5 ?c5 ?k5 ?a6 ?l6 ?c6 ?k6 ?a7 ?l7 ?c7 ?k7 ?a8 ?l8 ?c8 ?k8 ?a9 ?l9 ?c9 ?k9 ?a10 ?l10 ?c10 ?k10 ?a11 ?l11 ?c11 ?k11 ?a12 ?l12 ?c12 ?k12 ?z_IndexError ?z_KeyError ?z_LookupError ?z_OverflowError ?z_RuntimeError ?z_ValueError ?z_abs ?z_enumerate ?z_int ?z_isinstance ?z_len ?z_max ?z_min ?z_range ?z_repr ?z_tuple ?xa_AheadError ?xb_AheadError ?xa_InvalidBook ?xb_InvalidBook ?xa_InvalidItem ?xb_InvalidItem ?xa_InvalidProgram ?xb_InvalidProgram ?xa_InvalidSender ?xb_InvalidSender ?xa_InvalidServer ?xb_InvalidServer ?xa_InvalidFacts ?xb_InvalidFacts ?xa_InvalidRow ?xb_InvalidRow ?xa_InvalidStand ?xb_InvalidStand ?xa_InvalidOperation ?xb_InvalidOperation ?xa_ParseError ?xi_ParseError ?xl_ParseError ?xd_ParseError ?xo_ParseError ?xv_ParseError ?xf_ParseError ?xc_ParseError ?xb_ParseError ?xa_UnknownName ?xi_UnknownName ?xl_UnknownName ?xd_UnknownName ?xo_UnknownName ?xv_UnknownName ?xf_UnknownName ?xc_UnknownName ?xb_UnknownName ?xa_InvalidNumber ?xi_InvalidNumber ?xl_InvalidNumber ?xd_InvalidNumber ?xo_InvalidNumber ?xv_InvalidNumber ?xf_InvalidNumber ?xc_InvalidNumber ?xb_InvalidNumber ?xa_NothingToUndo ?xi_NothingToUndo ?xl_NothingToUndo ?xd_NothingToUndo ?xo_NothingToUndo ?xv_NothingToUndo ?xf_NothingToUndo ?xc_NothingToUndo ?xb_NothingToUndo ?xa_TooMany ?xi_TooMany ?xl_TooMany ?xd_TooMany ?xo_TooMany ?xv_TooMany ?xf_TooMany ?xc_TooMany ?xb_TooMany ?xa_Unlike ?xi_Unlike ?xl_Unlike ?xd_Unlike ?xo_Unlike ?xv_Unlike ?xf_Unlike ?xc_Unlike ?xb_Unlike ?xt_C ?xt_B ?xt_E
    (case z_super => k_is)
    (case a0 => k_is)
    (case l0 => k_is)
    (case c0 => k_is)
    (case k0 => k_is)
    (case a1 => k_is)
    (case l1 => k_is)
    (case c1 => k_is)
    (case k1 => k_is)
    (case a2 => k_is)
    (case l2 => k_is)
    (case c2 => k_is)
    (case k2 => k_is)
    (case a3 => k_is)
    (case l3 => k_is)
    (case c3 => k_is)
    (case k3 => k_is)
    (case a4 => k_is)
    (case l4 => k_is)
    (case c4 => k_is)
    (case k4 => k_is)
    (case a5 => k_is)
    (case l5 => k_is)
    (case c5 => k_is)
    (case k5 => k_is)
    (case a6 => k_is)
    (case l6 => k_is)
    (case c6 => k_is)
    (case k6 => k_is)
    (case a7 => k_is)
    (case l7 => k_is)
    (case c7 => k_is)
    (case k7 => k_is)
    (case a8 => k_is)
    (case l8 => k_is)
    (case c8 => k_is)
    (case k8 => k_is)
    (case a9 => k_is)
    (case l9 => k_is)
    (case c9 => k_is)
    (case k9 => k_is)
    (case a10 => k_is)
    (case l10 => k_is)
    (case c10 => k_is)
    (case k10 => k_is)
    (case a11 => k_is)
    (case l11 => k_is)
    (case c11 => k_is)
    (case k11 => k_is)
    (case a12 => k_is)
    (case l12 => k_is)
    (case c12 => k_is)
    (case k12 => k_is)
    (case z_IndexError => k_is)
    (case z_KeyError => k_is)
    (case z_LookupError => k_is)
    (case z_OverflowError => k_is)
    (case z_RuntimeError => k_is)
    (case z_ValueError => k_is)
    (case z_abs => k_is)
    (case z_enumerate => k_is)
    (case z_int => k_is)
    (case z_isinstance => k_is)
    (case z_len => k_is)
    (case z_max => k_is)
    (case z_min => k_is)
    (case z_range => k_is)
    (case z_repr => k_is)
    (case z_tuple => k_is)
    (case xa_AheadError => k_is)
    (case xb_AheadError => kernel_rfl)
    (case xa_InvalidBook => k_is)
    (case xb_InvalidBook => kernel_rfl)
    (case xa_InvalidItem => k_is)
    (case xb_InvalidItem => kernel_rfl)
    (case xa_InvalidProgram => k_is)
    (case xb_InvalidProgram => kernel_rfl)
    (case xa_InvalidSender => k_is)
    (case xb_InvalidSender => kernel_rfl)
    (case xa_InvalidServer => k_is)
    (case xb_InvalidServer => kernel_rfl)
    (case xa_InvalidFacts => k_is)
    (case xb_InvalidFacts => kernel_rfl)
    (case xa_InvalidRow => k_is)
    (case xb_InvalidRow => kernel_rfl)
    (case xa_InvalidStand => k_is)
    (case xb_InvalidStand => kernel_rfl)
    (case xa_InvalidOperation => k_is)
    (case xb_InvalidOperation => kernel_rfl)
    (case xa_ParseError => k_is)
    (case xi_ParseError => k_is)
    (case xl_ParseError => k_is)
    (case xd_ParseError => k_is)
    (case xo_ParseError => k_is)
    (case xv_ParseError => rfl)
    (case xf_ParseError => kernel_rfl)
    (case xc_ParseError => k_is)
    (case xb_ParseError => kernel_rfl)
    (case xa_UnknownName => k_is)
    (case xi_UnknownName => k_is)
    (case xl_UnknownName => k_is)
    (case xd_UnknownName => k_is)
    (case xo_UnknownName => k_is)
    (case xv_UnknownName => rfl)
    (case xf_UnknownName => kernel_rfl)
    (case xc_UnknownName => k_is)
    (case xb_UnknownName => kernel_rfl)
    (case xa_InvalidNumber => k_is)
    (case xi_InvalidNumber => k_is)
    (case xl_InvalidNumber => k_is)
    (case xd_InvalidNumber => k_is)
    (case xo_InvalidNumber => k_is)
    (case xv_InvalidNumber => rfl)
    (case xf_InvalidNumber => kernel_rfl)
    (case xc_InvalidNumber => k_is)
    (case xb_InvalidNumber => kernel_rfl)
    (case xa_NothingToUndo => k_is)
    (case xi_NothingToUndo => k_is)
    (case xl_NothingToUndo => k_is)
    (case xd_NothingToUndo => k_is)
    (case xo_NothingToUndo => k_is)
    (case xv_NothingToUndo => rfl)
    (case xf_NothingToUndo => kernel_rfl)
    (case xc_NothingToUndo => k_is)
    (case xb_NothingToUndo => kernel_rfl)
    (case xa_TooMany => k_is)
    (case xi_TooMany => k_is)
    (case xl_TooMany => k_is)
    (case xd_TooMany => k_is)
    (case xo_TooMany => k_is)
    (case xv_TooMany => rfl)
    (case xf_TooMany => kernel_rfl)
    (case xc_TooMany => k_is)
    (case xb_TooMany => kernel_rfl)
    (case xa_Unlike => k_is)
    (case xi_Unlike => k_is)
    (case xl_Unlike => k_is)
    (case xd_Unlike => k_is)
    (case xo_Unlike => k_is)
    (case xv_Unlike => rfl)
    (case xf_Unlike => kernel_rfl)
    (case xc_Unlike => k_is)
    (case xb_Unlike => kernel_rfl)
    (case xt_C => kernel_rfl)
    (case xt_B => kernel_rfl)
    (case xt_E => kernel_rfl)
