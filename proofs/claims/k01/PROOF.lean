import PyProof.Rows.All
import Wide.All
import OpenK.AllK
import Wide.FinOn
import HandS.ForMost
import HandS.IsInst
import HandS.Walk
import HandS.Exc
import HandS.Style
import HandS.Evl
import PySem.Challenge.RW_skipahead_k01_names
set_option Elab.async false
set_option linter.all false
set_option maxRecDepth 100000
set_option maxHeartbeats 4000000
/-! Defs whose surroundings have no repr under way: the room with that fact, a def's promise in such a room, its calls, the law's end. -/
namespace G9
open PySem PySem.Spec PyProof.Rows L2

structure RoomG (k : Nat) (A : Around) : Prop where
  r : Room k A
  g : A.guards = some []
theorem RoomG.down {j k : Nat} {A : Around} (h : RoomG k A) (l : j ≤ k) : RoomG j A := ⟨h.r.mono l, h.g⟩

structure FnG (P : Program) (w : World) (K : PySem.W.Frag) (mg : Str → Option Value) (base : Heap) (CX : CXT) (k : Nat) (f : Addr) (fd : FuncData) (ps : List Str) (sp : Sp) : Prop where
  count : ∀ vs H Q E, sp vs H Q E → vs.length = ps.length
  goes : ∀ (A : Around) (fs : List Env) (s : Shared) (H : Hp) (as : Args) (us : List Value) (vs : List V) (Q : VK) (E : XK), RoomG k A → Env0 P w K mg base A fs s H →
    BindsTo s fd as (ps.zip us) → Vals vs us → sp vs H Q E → codeAny (model P w) A (.call (.ref f) as) (CR CX fs P w H s Q E) s

section
variable {P : Program} {w : World} {K : PySem.W.Frag} {mg : Str → Option Value} {base : Heap} {CX : CXT} {k : Nat} {f : Addr} {fd : FuncData} {ps N : List Str} {sp : Sp}
theorem FnG.up {j : Nat} (F : FnG P w K mg base CX j f fd ps sp) (l : j ≤ k) : FnG P w K mg base CX k f fd ps sp :=
  ⟨F.count, fun A fs s H as us vs Q E h => F.goes A fs s H as us vs Q E (h.down l)⟩
theorem FnG.weaker {sp' : Sp} (F : FnG P w K mg base CX k f fd ps sp) (i : ∀ vs H Q E, sp' vs H Q E → sp vs H Q E) : FnG P w K mg base CX k f fd ps sp' :=
  ⟨fun vs H Q E h => F.count vs H Q E (i vs H Q E h), fun A fs s H as us vs Q E a b c d e => F.goes A fs s H as us vs Q E a b c d (i vs H Q E e)⟩

/-- a def by its body -/
theorem by_body {name qual : Str} {params : Arguments} {body : List Stmt} {scope : Scope} {dV kV doc pm cdv ct oc : Value} {an od : Option Addr} {osl : Array (Option Value)}
    (at_ : K.lookup f = some ⟨oc, od, .func (PySem.W.fnOf name qual params body scope dV kV doc pm an cdv ct), osl⟩) (cd : PySem.W.codeIn K cdv qual = true) (S : FnScope N ps scope)
    (count : ∀ vs H Q E, sp vs H Q E → vs.length = ps.length)
    (hb : ∀ (A : Around) (fs : List Env) (s : Shared) (H : Hp) (vs : List V) (Q : VK) (E : XK), RoomG k (A.deeper (envOfC qual scope s.heap.objs.size f cdv)) → sp vs H Q E →
      ∃ t, PSs (cxOf CX P w K mg base N qual scope f cdv A fs s H E) body t ∧ t { nx := fun _ G => Q .non G, rt := Q } (start N vs) H) :
    FnG P w K mg base CX (k + 1) f (PySem.W.fnOf name qual params body scope dV kV doc pm an cdv ct) ps sp := by
  constructor
  · exact count
  intro A fs s H as us vs Q E room env bind rel want
  have same := count _ _ _ _ want
  have inS : K.In s.heap := env.mod.kin.keeps fun b o z => (env.bs b o z).1
  have noLim : s.heap.NoLimit := env.mod.nolimit.keeps fun b o z => (env.bs b o z).1
  have kinds : ∀ y ∈ ps.zip us, scope.names.lookup y.1 = some .local ∨ (scope.names.lookup y.1 = some .cell ∧ ((cellsFrom (s.heap.objs.size + 1) scope.names []).lookup y.1).isSome = true) := by
    rintro ⟨n, v⟩ hy
    rcases S.par n (List.of_mem_zip hy).1 with z | z
    · exact Or.inl z
    · exact Or.inr ⟨z, PySem.W.cellsFrom_some _ _ _ (.inl z)⟩
  refine codeAny_call_function room.r.depth (inS _ _ at_) rfl S.co S.gen rfl (PySem.W.codeRec_of inS cd) (bind _ _ _ _ ?_)
  refine wpAny_newFunctionEnv_cells S.kind kinds fun en ee s1 x => ?_
  subst ee
  refine ⟨noLim.keeps x.toInCall.keep, codeAny_func ?_⟩
  obtain ⟨t, ht, hq⟩ := hb A fs s H vs Q E ⟨room.r.deeper _, room.g⟩ want
  have J := inv_start (CX := CX) (E := E) S room.r.hd env same rel x
  have done : ∀ {τ : L2.St} {G : Hp} {v : V} {u : Value} {z : Shared}, Inv (cxOf CX P w K mg base N qual scope f cdv A fs s H E) [] τ G z → RelV v u → Q v G → CE fs P w H s Q u z :=
    fun {_ G v _ _} I r q => ⟨v, G, I.os, I.bare, I.base, I.hok, r, q⟩
  refine wpAny_mono (ht.run [] s1 (start N vs) H _ J hq) ?_ fun _ _ z => z
  intro fl z hz
  cases fl with
  | next =>
    obtain ⟨_, _, I, q⟩ := hz
    exact done (v := V.non) (u := Value.none) I rfl q
  | ret u =>
    obtain ⟨_, _, _, I, r, q⟩ := hz
    exact done I r q
  | brk => exact hz.elim fun _ h => h.elim fun _ h => h.2.elim
  | cont => exact hz.elim fun _ h => h.elim fun _ h => h.2.elim

/-- a def of the text, nothing raised leaves it -/
theorem okG {x qual : Str} {st : Stmt} (F : Fun K x qual st f fd) (S : FnScope N ps (defScope st)) (count : ∀ vs H Q E, sp vs H Q E → vs.length = ps.length)
    (hb : ∀ (cdv : Value) (A : Around) (fs : List Env) (s : Shared) (H : Hp) (vs : List V) (Q : VK) (E : XK), RoomG k (A.deeper (envOfC qual (defScope st) s.heap.objs.size f cdv)) → sp vs H Q E →
      ∃ t, PSs (cxOf CX0 P w K mg base N qual (defScope st) f cdv A fs s H E).nox (defBody st) t ∧ t { nx := fun _ G => Q .non G, rt := Q } (start N vs) H) : FnG P w K mg base CX0 (k + 1) f fd ps sp := by
  obtain ⟨_, _, _, _, _, _, cdv, _, _, rfl, lk, cd⟩ := F.ex
  refine by_body lk cd S count fun A fs s H vs Q E room want => ?_
  obtain ⟨t, h, q⟩ := hb cdv A fs s H vs Q E room want
  exact ⟨t, h.nox, q⟩
end

section
variable {X : Cx} {CX : CXT} {k : Nat} {f C : Addr} {fd : FuncData} {ps : List Str} {sp : Sp} {dvs : List V} {ds : List Value} {E : XK} {x m : Str} {p pos apos : Pos} {e o : Expr} {es : List Expr} {ta : TE} {t : TA}
theorem callee {pins : List (Addr × Obj)} {σ : L2.St} {H : Hp} {s : Shared} {Q : VK} {us : List Value} {vs : List V} (F : FnG X.prog X.w X.K X.mg X.base CX k f fd ps sp) (room : RoomG k X.A) (hb : Binds X.K fd ps ds) (hd : Vals dvs ds) (hx : Passes CX X E)
    (I : Inv X pins σ H s) (r : Vals vs us) (want : sp (vs ++ dvs) H Q E) : wpAny (model X.prog X.w) X.A (call (.ref f) us) (EP X pins σ Q) X.xe s := by
  have rr : Vals (vs ++ dvs) (us ++ ds) := r.append hd
  have len : (us ++ ds).length = ps.length := rr.length.symm.trans (F.count _ _ _ _ want)
  refine wpAny_call (codeAny_mono (F.goes X.A X.stack s H ⟨us, []⟩ (us ++ ds) (vs ++ dvs) Q E room I.env0 (hb s us I.kIn len) rr want) ?_)
  intro res z hz
  match res, hz with
  | .error e, hz => exact hx pins σ H s e z I hz
  | .ok (.ret u), hz => exact I.after hz

theorem pe_callG (F : FnG X.prog X.w X.K X.mg X.base CX k f fd ps sp) (room : RoomG k X.A) (hg : Gl X x) (hm : X.mg x = some (.ref f)) (hk : PySem.W.keepIn X.K (.ref f) = true) (hb : Binds X.K fd ps ds) (hd : Vals dvs ds) (hx : Passes CX X E)
    (ha : PA X (e :: es) t) (nd : (x == ("__debug__" : Str)) = false := by decide) (he : starEach (e :: es) X.env = (false, eval e X.env) :: starEach es X.env := by rfl) (hp : (backTo pos (starEach es X.env)).any (·.1) = false := by rfl) :
    PE X (.Call (.Name x p) (e :: es) [] pos) (tCall sp dvs E t) := by
  constructor
  intro pins s σ H Q I want
  refine wpAny_Call_Name_kw (ld_glob I hg hm ?_ nd)
  exact PySem.W.callWith_K (h₀ := X.base) I.ok.mod.kin hk (thn (ha.run pos pins s σ H _ I want) fun us z ⟨vs, G, J, r, q⟩ => ⟨J.kIn, callee F room hb hd hx J r q⟩) he hp
theorem pe_callG0 (F : FnG X.prog X.w X.K X.mg X.base CX k f fd ps sp) (room : RoomG k X.A) (hg : Gl X x) (hm : X.mg x = some (.ref f)) (hk : PySem.W.keepIn X.K (.ref f) = true) (hb : Binds X.K fd ps ds) (hd : Vals dvs ds) (hx : Passes CX X E)
    (nd : (x == ("__debug__" : Str)) = false := by decide) : PE X (.Call (.Name x p) [] [] pos) (tCall sp dvs E tNil) := by
  constructor
  intro pins s σ H Q I want
  exact wpAny_Call_Name_kw (ld_glob I hg hm (PySem.W.callWith_K0 I.kIn hk (callee (us := []) F room hb hd hx I .nil want)) nd)
end

/-- the law's call at the outermost place: the script is a list of nums; nothing is repr'd -/
theorem law_end {P : Program} {w : World} {K : PySem.W.Frag} {mg mb : Str → Option Value} {CX : CXT} {k : Nat} {fa a : Addr} {fd : FuncData} {x : Str} {sp : Sp} {z : Shared} {vs : List Value} {ns : List Int}
    (inK : K.In z.heap) (glo : z.heap.Ns mainGlobals mg) (blt : z.heap.Ns builtinsNs mb) (boot : ∀ y : Str, y ≠ "__name__" → mb y = bootBuiltins y) (lim : z.heap.NoLimit) (bare : z.gens = #[])
    (ha : z.heap.get? a = some { cls := .type "list", data := .seq vs.toArray }) (nums : IntsAre vs ns) (small : ns.length ≤ sizeLine) (room : Room k callerA)
    (F : ∀ base : Heap, K.In base → base.Ns mainGlobals mg → FnG P w K mg base CX k fa fd [x] sp) (bind : ∀ (s : Shared) (u : Value), BindsTo s fd ⟨[u], []⟩ [(x, u)])
    (want : ∀ H : Hp, SqL K H a (ns.map V.int) → sp [.ref a] H (fun v _ => v = .bl true) fun _ _ _ => False)
    (none_out : ∀ H e s', CX [] H z (fun _ _ _ => False) e s' → False) :
    codeAny (model P w) callerA (.call (.ref fa) ⟨[.ref a], []⟩) (fun r s' => r = .ok (.ret (.bool true)) ∧ OldK z.heap s'.heap ∧ s'.os = z.os ∧ AllBare s'.gens) z := by
  have rel := vals_ints nums
  -- at an abstract heap that tracks the script at most, as a locked list
  suffices core : ∀ H : Hp, (∀ b u, H b = some u → b = a ∧ K.lookup a = none ∧ ∃ o xs, u = .frz o (.lst xs)) → SqL K H a (ns.map V.int) → HOk P w H z.heap →
      codeAny (model P w) callerA (.call (.ref fa) ⟨[.ref a], []⟩) (fun r s' => r = .ok (.ret (.bool true)) ∧ OldK z.heap s'.heap ∧ s'.os = z.os ∧ AllBare s'.gens) z by
    cases there : K.lookup a with
    | some o =>
      have same := inK a o there
      rw [ha] at same
      cases same
      refine core (fun _ => none) (fun b u q => by cases (show (none : Option HO) = some u from q)) (Or.inr ⟨_, vs.toArray, _, there, rfl, rfl, rfl, ?_, by simpa using rel⟩) fun b u q => by cases (show (none : Option HO) = some u from q)
      have := nums.length
      simp only [List.size_toArray]
      omega
    | none =>
      have only : ∀ b u, (if b = a then some (HO.frz { cls := .type "list", data := .seq vs.toArray } (.lst (ns.map V.int))) else none) = some u → b = a ∧ u = HO.frz { cls := .type "list", data := .seq vs.toArray } (.lst (ns.map V.int)) := by
        intro b u q
        by_cases hb : b = a
        · rw [if_pos hb] at q
          exact ⟨hb, (Option.some.inj q).symm⟩
        · rw [if_neg hb] at q
          cases q
      refine core (fun b => if b = a then some (.frz { cls := .type "list", data := .seq vs.toArray } (.lst (ns.map V.int))) else none) (fun b u q => ?_) (Or.inl (Or.inr ⟨_, if_pos rfl⟩)) fun b u q => ?_
      · obtain ⟨e1, e2⟩ := only b u q
        exact ⟨e1, there, _, _, e2⟩
      · obtain ⟨e1, e2⟩ := only b u q
        subst e1
        subst e2
        exact ⟨ha, by rw [List.length_map]; exact small, vs, _, rel, ha⟩
  intro H tracked script ok
  have kept : ∀ {b : Addr} {o : Obj}, z.heap.get? b = some o → H b = none → (hidT z.heap H).get? b = some o := fun e n => hidT_get e n
  have noDict : ∀ {b : Addr} {o : Obj} {es : Array DictEntry} {ep : Nat}, z.heap.get? b = some o → o.data = .dict es ep → H b = none := by
    intro b o es ep e d
    cases q : H b with
    | none => rfl
    | some u =>
      obtain ⟨rfl, _, _⟩ := tracked b u q
      rw [ha] at e
      cases e
      cases d
  have nsOf : ∀ {b : Addr} {m : Str → Option Value}, z.heap.Ns b m → (hidT z.heap H).Ns b m := by
    rintro b m ⟨o, es, ep, e, d, r⟩
    exact ⟨o, es, ep, kept e (noDict e d), d, r⟩
  have inB : K.In (hidT z.heap H) := by
    intro b o e
    refine kept (inK b o e) ?_
    cases q : H b with
    | none => rfl
    | some u =>
      obtain ⟨rfl, none', _⟩ := tracked b u q
      rw [none'] at e
      cases e
  have md : Mod K mg (hidT z.heap H) := ⟨inB, nsOf glo, ⟨mb, nsOf blt, boot⟩, by obtain ⟨mc, h1, h2⟩ := lim; exact ⟨mc, nsOf h1, h2⟩⟩
  have env : Env0 P w K mg (hidT z.heap H) callerA [] z H :=
    ⟨rfl, md, fun b o e => of_hidT e, Nat.le_of_eq (hidT_size _ _), trivial, (fun b hb => nomatch hb), ok, .of_eq bare⟩
  refine codeAny_mono ((F _ inB (nsOf glo)).goes callerA [] z H ⟨[.ref a], []⟩ [.ref a] [.ref a] _ _ ⟨room, rfl⟩ env (bind z (.ref a)) (.cons rfl .nil) (want H script)) ?_
  intro res s' h
  match res, h with
  | .error e, h => exact (none_out H e s' h).elim
  | .ok (.ret u), h =>
    obtain ⟨v, G, os, br, un, ok', rv, q⟩ := h
    have q' : v = .bl true := q
    subst q'
    have eu : u = Value.bool true := rv
    subst eu
    refine ⟨rfl, OldK.of_keep fun b o e => ?_, os, br⟩
    cases hq : H b with
    | none => exact un.keep b o e hq (fun t => nomatch t) (fun t => nomatch t)
    | some t =>
      obtain ⟨rfl, _, ob, xs, rfl⟩ := tracked b t hq
      have later := ok' b _ (un.frzs b ob _ hq)
      have now := ok b _ hq
      obtain ⟨g1, _⟩ := now
      obtain ⟨g2, _⟩ := later
      rw [e] at g1
      cases g1
      exact g2

theorem law_walk {l : PySem.W.OpenLaw} {n k : Nat} {q : Program} {loose : List Str} {XP : (Str → Option Value) → Heap → Prop} {YP : World → Heap → Prop} {d : DefRec} {K : Params → PySem.W.Frag} {CX : World → CXT} {sp : World → Sp} {x : Str}
    (most : l.most = some n) (small : n ≤ sizeLine) (plain : d.params.defaults = []) (room : Room k callerA) (inK : ∀ (w : World) (h : Heap), YP w h → (K w.params).In h)
    (F : ∀ (w : World) (mg : Str → Option Value) (fa : Addr) (h : Heap), (K w.params).In h → h.Ns mainGlobals mg → mg d.name = some (.ref fa) →
      ∃ fd : FuncData, (∀ (s : Shared) (u : Value), BindsTo s fd ⟨[u], []⟩ [(x, u)]) ∧ ∀ base : Heap, (K w.params).In base → base.Ns mainGlobals mg → FnG l.prog w (K w.params) mg base (CX w) k fa fd [x] (sp w))
    (want : ∀ (w : World) (H : Hp) (a : Addr) (ns : List Int), ns.length ≤ n → SqL (K w.params) H a (ns.map V.int) → sp w [.ref a] H (fun v _ => v = .bl true) fun _ _ _ => False)
    (none_out : ∀ (w : World) (H : Hp) (s : Shared) (e : Value) (s' : Shared), CX w [] H s (fun _ _ _ => False) e s' → False) :
    PySem.W.WalkO q loose XP YP l.row.toRowW d [] (fun f vs => PySem.call f vs) := by
  refine Att.attach_call most plain ?_
  intro w s₀ z mg mb fa o pm cd doc a vs ns G Y ho hd hcd hmg hobj hints hlen hg
  obtain ⟨fd, hb, hF⟩ := F w mg fa _ (inK w _ Y) G.T.g hmg
  exact law_end (inK w _ Y) G.T.g G.T.b G.T.builtins G.T.nolimit hg hobj hints (Nat.le_trans hlen small) room hF hb (fun H hS => want w H a ns hlen hS) fun H e s' => none_out w H z e s'
end G9

/-! Further rules: powers, repr of data, a text many times, rows of constants; readings step by step. -/
namespace G9
open PySem PySem.Spec PyProof.Rows L2
section
variable {X : Cx} {a b c e : Expr} {ta tb tc : TE} {pos : Pos}

def CPowW (i j : Int) : Prop := 0 ≤ j ∧ (Builtin.Int.intBits i : Int) * j ≤ 2 ^ 27
instance {i j : Int} : Decidable (CPowW i j) := inferInstanceAs (Decidable (0 ≤ j ∧ (Builtin.Int.intBits i : Int) * j ≤ 2 ^ 27))
theorem op_powW : OpR X (binaryOp .Pow) (rI CPowW fun i j => .int (i ^ j.toNat)) := opI fun _ _ _ _ _ _ _ c q => pow_int c.1 c.2 q

theorem rep_size {α : Type} (a : Array α) : ∀ (n : Nat) (b : Array α), ((List.replicate n a).foldl (· ++ ·) b).size = b.size + n * a.size
  | 0, b => by simp
  | n + 1, b => by
    rw [List.replicate_succ, List.foldl_cons, rep_size a n (b ++ a), Array.size_append, Nat.add_mul, Nat.one_mul]
    omega
theorem rep_mem {α : Type} {a : Array α} {x : α} : ∀ {n : Nat} {b : Array α}, x ∈ ((List.replicate n a).foldl (· ++ ·) b).toList → x ∈ b.toList ∨ x ∈ a.toList
  | 0, b, h => Or.inl h
  | n + 1, b, h => by
    rw [List.replicate_succ, List.foldl_cons] at h
    rcases rep_mem h with h | h
    · rw [Array.toList_append] at h
      exact List.mem_append.mp h
    · exact Or.inr h
/-- a text n times, 2 ≤ n -/
def rTimes : R2 := fun x y H Q => ∃ (z : Str) (n : Nat), x = .str z ∧ y = .int (n : Int) ∧ 2 ≤ n ∧ 1 ≤ z.length ∧ z.length * n ≤ 1000000 ∧ Q (.str ⟨(List.replicate n z.cps).foldl (· ++ ·) #[]⟩) H
theorem op_times : OpR X (binaryOp .Mult) rTimes := by
  intro pins s σ H x y v u Q I rx ry h
  obtain ⟨z, n, rfl, rfl, h2, h1, hz, q⟩ := h
  obtain ⟨t, rfl⟩ := rx
  obtain ⟨t', rfl⟩ := ry
  have hn : n ≤ 1000000 := Nat.le_trans (Nat.le_mul_of_pos_left n h1) hz
  have n1 : ¬ ((n : Int) < 1) := by omega
  have n2 : (((n : Int) == 1) || z.length == 0) = false := by
    have e1 : ((n : Int) == 1) = false := by
      rw [beq_eq_false_iff_ne]
      omega
    have e2 : (z.length == 0) = false := by
      rw [beq_eq_false_iff_ne]
      omega
    rw [e1, e2]
    rfl
  have zl : z.length ≤ 1000000 := Nat.le_trans (Nat.le_mul_of_pos_right z.length (by omega)) hz
  refine PySem.P.mul_str ?_ (fun _ _ => ?_) (fun _ _ => ?_) ?_
  · rw [decide_eq_false (by omega), decide_eq_false (by omega)]
    rfl
  · have hd : (1000000 : Int) ≤ (2 ^ 63 - 1) / (n : Int) := by
      rw [Int.le_ediv_iff_mul_le (by omega)]
      omega
    omega
  · show decide (z.length * (n : Int).toNat > sizeLine) = false
    rw [sizeLine_eq]
    simp only [Int.toNat_natCast]
    exact decide_eq_false (by omega)
  · rw [if_neg n1, if_neg (by rw [n2]; exact Bool.false_ne_true), Int.toNat_natCast]
    refine ⟨?_, ⟨.str _, H, I.tok _, ⟨_, rfl⟩, q⟩⟩
    show ((List.replicate n z.cps).foldl (· ++ ·) #[]).size ≤ sizeLine
    rw [rep_size, sizeLine_eq]
    have e : z.length = z.cps.size := rfl
    rw [Nat.mul_comm n, ← e]
    show 0 + z.length * n ≤ 16777216
    omega

/-- repr of a list or a tuple of data -/
def rRepr (K : PySem.W.Frag) : List V → Hp → VK → Prop := fun xs H Q => ∃ (p : Addr) (d : PyData), xs = [.ref p] ∧ Dp K H (.ref p) d ∧ d.showable = true ∧ d.hasDict = false ∧ d.depth ≤ 60 ∧ d.shown.length ≤ sizeLine ∧ Q (.str d.shown) H
theorem call_reprD {k : Nat} (room : RoomG k X.A) : CallR X (.builtin "repr") (rRepr X.K) := by
  intro pins s σ H xs us Q I r h
  obtain ⟨p, d, rfl, hd, h1, h2, h3, h4, q⟩ := h
  obtain ⟨u, rfl, r1⟩ := vals1 r
  obtain ⟨as, rd⟩ := Dp.reads I d _ _ hd r1
  have eu : u = Value.ref p := r1
  subst eu
  have un := room.r.units
  exact repr_of_reads' rd h1 (fun z => by rw [h2] at z; cases z) room.g (by omega) (fun _ _ z => z) (fun h' t tk k => ⟨.str d.shown, H, I.kept k, ⟨t, rfl⟩, q⟩) h4

theorem pe_tyV {x : Str} {n : String} (hg : Gl X x) (hm : X.mg x = none) (hv : bootBuiltins x = some (.type n)) (h1 : x ≠ "__name__" := by decide) (h2 : (x == ("__debug__" : Str)) = false := by decide) : PE X (.Name x pos) (tC (.ty n)) := pe_bltn hg hm hv rfl h1 h2
/-- // by a positive divisor below 2^64 -/
def CDivW (i j : Int) : Prop := 0 < j ∧ j < 18446744073709551616
theorem op_fdivW : OpR X (binaryOp .FloorDiv) (rI CDivW fun i j => .int (i / j)) := opI fun i j _ _ _ _ _ hc q => by
  have h1 : (0 : Int) < j := hc.1
  have h2 : j < 18446744073709551616 := hc.2
  refine floordiv_int (by omega) (by rw [Int.fdiv_eq_ediv_of_nonneg i (by omega)]; exact q) (.inl (PyProof.noPylong_of_log2 ?_))
  have h3 : j.natAbs < 2 ^ 64 := by omega
  have h4 : j.natAbs ≠ 0 := by omega
  exact Nat.lt_trans ((Nat.log2_lt h4).mpr h3) (by decide)
/-! ### rows of constants -/
def cV : Expr → Option V
  | .Constant (.int i) _ _ => some (.int i)
  | .Constant (.bool k) _ _ => some (.bl k)
  | .Constant .none _ _ => some .non
  | .Constant (.str z) _ _ => some (.str z)
  | _ => none
def cVs : List Expr → Option (List V)
  | [] => some []
  | e :: es => match cV e, cVs es with
    | some v, some vs => some (v :: vs)
    | _, _ => none
def tConsts (vs : List V) : TA := fun _ H Q => Q vs H
theorem pe_const {e : Expr} {v : V} (h : cV e = some v) : PE X e (tC v) := by
  unfold cV at h
  split at h
  · cases h; exact pe_int
  · cases h; exact pe_bl
  · cases h; exact pe_non
  · cases h; exact pe_str
  · cases h
theorem star_const {e : Expr} {v : V} (h : cV e = some v) (es : List Expr) (env : Env) : starEach (e :: es) env = (false, eval e env) :: starEach es env := by
  unfold cV at h
  split at h
  · rfl
  · rfl
  · rfl
  · rfl
  · cases h
theorem pa_consts : ∀ {es : List Expr} {vs : List V}, cVs es = some vs → PA X es (tConsts vs)
  | [], vs, h => by
    cases h
    exact pa_nil
  | e :: es, vs, h => by
    unfold cVs at h
    split at h
    · rename_i v vs' h1 h2
      cases h
      exact pa_cons (pe_const h1) (pa_consts h2) (star_const h1 es X.env)
    · cases h

/-! ### readings with names -/
def rInt : List V → Hp → VK → Prop := fun xs H Q => (∃ i, xs = [.int i] ∧ Q (.int i) H) ∨ ∃ k, xs = [.bl k] ∧ Q (.int (if k then 1 else 0)) H
theorem c_int : CallR X (.type "int") rInt := call_int1
def rAbs : List V → Hp → VK → Prop := fun xs H Q => ∃ i, xs = [.int i] ∧ Q (.int (if i < 0 then -i else i)) H
theorem c_abs : CallR X (.builtin "abs") rAbs := call_abs
def rMax2 : List V → Hp → VK → Prop := fun xs H Q => ∃ i j, xs = [.int i, .int j] ∧ Q (.int (if j > i then j else i)) H
theorem c_max2 (hc : X.calm = true) : CallR X (.builtin "max") rMax2 := call_max2 hc
def rMin2 : List V → Hp → VK → Prop := fun xs H Q => ∃ i j, xs = [.int i, .int j] ∧ Q (.int (if j < i then j else i)) H
theorem c_min2 (hc : X.calm = true) : CallR X (.builtin "min") rMin2 := call_min2 hc
def rLen (K : PySem.W.Frag) : List V → Hp → VK → Prop := fun xs H Q => ∃ x n, xs = [x] ∧ LenV K x H n ∧ Q (.int (n : Nat)) H
theorem c_len : CallR X (.builtin "len") (rLen X.K) := call_len
def rAddStr : R2 := fun x y H Q => ∃ i j, x = .str i ∧ y = .str j ∧ i.length + j.length ≤ sizeLine ∧ Q (.str (i ++ j)) H
theorem o_addS : OpR X (binaryOp .Add) rAddStr := op_add_str
def rLeStr : R2 := fun x y H Q => ∃ i j, x = .str i ∧ y = .str j ∧ Q (.bl (!decide (j.cps.toList < i.cps.toList))) H
theorem o_leS : OpR X (compareOp .LtE) rLeStr := op_le_str
def rListOf (K : PySem.W.Frag) : List V → Hp → VK → Prop := fun xs H Q => ∃ p ys, xs = [.ref p] ∧ (SqL K H p ys ∨ SqT K H p ys) ∧ ∀ l, H l = none → Q (.ref l) (upd H l (.lst ys))
theorem c_list : CallR X (.type "list") (rListOf X.K) := call_list_of
def rInS : R2 := fun x y H Q => ∃ (c : Nat) (z : Str), x = .str ⟨#[c]⟩ ∧ y = .str z ∧ Q (.bl (decide (c ∈ z.cps.toList))) H
theorem o_inS : OpR X (compareOp .In) rInS := op_in_sign
def rNinS : R2 := fun x y H Q => ∃ (c : Nat) (z : Str), x = .str ⟨#[c]⟩ ∧ y = .str z ∧ Q (.bl (!decide (c ∈ z.cps.toList))) H
theorem o_ninS : OpR X (compareOp .NotIn) rNinS := op_notIn_sign
end

/-! ### readings, step by step -/
section
variable {K : PySem.W.Frag} {σ : L2.St} {H : Hp} {ta tb tc te : TE} {t u : TT} {tar : TA} {x y z v : V} {r r' : R2} {Q : VK} {D : Ends} {s1 s2 : TS} {g : TG} {sp : Sp} {dvs : List V} {E : XK}
theorem s_var {i : Nat} (h : σ[i]? = some (some v)) (q : Q v H) : tVar i σ H Q := ⟨v, h, q⟩
theorem s_c (q : Q v H) : tC v σ H Q := q
theorem s_op (q : ta σ H fun x H1 => tb σ H1 fun y H2 => r x y H2 Q) : tOp r ta tb σ H Q := q
theorem s_un {rr : V → Hp → VK → Prop} (q : ta σ H fun x H1 => rr x H1 Q) : tUn rr ta σ H Q := q
theorem s_cb {rr : List V → Hp → VK → Prop} (q : tar σ H fun vs H1 => rr vs H1 Q) : tCB rr tar σ H Q := q
theorem s_nil {Q : List V → Hp → Prop} (q : Q [] H) : tNil σ H Q := q
theorem s_cons {Q : List V → Hp → Prop} (q : te σ H fun x H1 => tar σ H1 fun xs H2 => Q (x :: xs) H2) : tCons te tar σ H Q := q
theorem s_consts {vs : List V} {Q : List V → Hp → Prop} (q : Q vs H) : tConsts vs σ H Q := q
theorem s_call (q : tar σ H fun vs H1 => sp (vs ++ dvs) H1 Q E) : tCall sp dvs E tar σ H Q := q
def NewL (xs : List V) (H1 : Hp) (Q : VK) : Prop := xs.length ≤ sizeLine ∧ ∀ p, H1 p = none → Q (.ref p) (upd H1 p (.lst xs))
def NewT (xs : List V) (H1 : Hp) (Q : VK) : Prop := xs.length ≤ sizeLine ∧ ∀ p, H1 p = none → Q (.ref p) (upd H1 p (.tup xs))
theorem s_lst (q : tar σ H fun xs H1 => NewL xs H1 Q) : tLst tar σ H Q := q
theorem s_tup (q : tar σ H fun xs H1 => NewT xs H1 Q) : tTup tar σ H Q := q
theorem same0 {H : Hp} {p : Addr} {o : HO} (n : H p = none) : L2.Same H (upd H p o) := fun b u z => by
  rw [upd_ne (ne_of_none z n)]
  exact z
theorem l_newL {xs : List V} (h : xs.length ≤ sizeLine) (k : ∀ p G, H p = none → L2.Same H G → G p = some (.lst xs) → Q (.ref p) G) : NewL xs H Q := ⟨h, fun p n => k p _ n (same0 n) upd_same⟩
theorem l_newT {xs : List V} (h : xs.length ≤ sizeLine) (k : ∀ p G, H p = none → L2.Same H G → G p = some (.tup xs) → Q (.ref p) G) : NewT xs H Q := ⟨h, fun p n => k p _ n (same0 n) upd_same⟩
theorem s_seq (q : s1 { D with nx := s2 D } σ H) : tSeq s1 s2 D σ H := q
theorem s_asg (q : te σ H fun x H1 => g x σ H1 D.nx) : tAsg te g D σ H := q
theorem s_name {i : Nat} {Q : L2.St → Hp → Prop} (q : Q (σ.set i (some v)) H) : gName i v σ H Q := q
theorem s_ret (q : te σ H D.rt) : tRet te D σ H := q
theorem s_next (q : D.nx σ H) : tNext D σ H := q
theorem s_drop (q : te σ H fun _ H1 => D.nx σ H1) : tDrop te D σ H := q
theorem s_if (q : t σ H fun b H1 => if b = true then s1 D σ H1 else s2 D σ H1) : tIfS t s1 s2 D σ H := q
theorem s_ifE (q : t σ H fun b H1 => if b = true then ta σ H1 Q else tb σ H1 Q) : tIf t ta tb σ H Q := q
theorem s_tb {Q : Bool → Hp → Prop} (q : te σ H fun x H1 => ∃ k, x = .bl k ∧ Q k H1) : tB te σ H Q := q
theorem s_test {Q : Bool → Hp → Prop} (q : te σ H fun x H1 => ∃ k, x = .bl k ∧ Q k H1) : tTest te σ H Q := q
theorem s_yes {Q : Bool → Hp → Prop} (q : Q true H) : tYes σ H Q := q
theorem s_not {Q : Bool → Hp → Prop} (q : t σ H fun b H1 => Q (!b) H1) : tNot t σ H Q := q
theorem s_and {Q : Bool → Hp → Prop} (q : t σ H fun b H1 => if b = true then u σ H1 Q else Q false H1) : tAnd t u σ H Q := q
theorem s_or {Q : Bool → Hp → Prop} (q : t σ H fun b H1 => if b = true then Q true H1 else u σ H1 Q) : tOr t u σ H Q := q
theorem s_andV (q : ta σ H fun x H1 => ∃ k, x = .bl k ∧ if k = true then tb σ H1 Q else Q (.bl false) H1) : tAndV ta tb σ H Q := q
theorem s_orV (q : ta σ H fun x H1 => ∃ k, x = .bl k ∧ if k = true then Q (.bl true) H1 else tb σ H1 Q) : tOrV ta tb σ H Q := q
theorem s_notV (q : ta σ H fun x H1 => ∃ k, x = .bl k ∧ Q (.bl (!k)) H1) : tNotV ta σ H Q := q
theorem s_chain (q : ta σ H fun x H1 => tb σ H1 fun y H2 => r x y H2 fun z H3 => ∃ k, z = .bl k ∧ (if k = true then tc σ H3 fun w H4 => r' y w H4 Q else Q (.bl false) H3)) : tChain r r' ta tb tc σ H Q := q
-- leaves
theorem l_bl {b : Bool} {P : Bool → Prop} (q : P b) : ∃ k, V.bl b = V.bl k ∧ P k := ⟨b, rfl, q⟩
theorem l_I0 {f : Int → Int → V} {i j : Int} (q : Q (f i j) H) : rI0 f (.int i) (.int j) H Q := ⟨i, j, rfl, rfl, q⟩
theorem l_I {C : Int → Int → Prop} {f : Int → Int → V} {i j : Int} (c : C i j) (q : Q (f i j) H) : rI C f (.int i) (.int j) H Q := ⟨i, j, rfl, rfl, c, q⟩
theorem l_U {f : Int → V} {i : Int} (q : Q (f i) H) : rU f (.int i) H Q := ⟨i, rfl, q⟩
theorem l_eq (c : scal x y = true) (q : Q (.bl (decide (x = y))) H) : rEq x y H Q := ⟨c, q⟩
theorem l_ne (c : scal x y = true) (q : Q (.bl (!decide (x = y))) H) : rNe x y H Q := ⟨c, q⟩
-- ifs
theorem i_dec {c A B : Prop} [Decidable c] (h1 : c → A) (h2 : ¬ c → B) : if decide c = true then A else B := by
  by_cases h : c
  · rw [if_pos (decide_eq_true h)]
    exact h1 h
  · rw [if_neg (by rw [decide_eq_false h]; exact Bool.false_ne_true)]
    exact h2 h
theorem i_b {b : Bool} {A B : Prop} (h1 : b = true → A) (h2 : b = false → B) : if b = true then A else B := by
  cases b with
  | true => exact h1 rfl
  | false => exact h2 rfl
theorem i_t {b : Bool} {A B : Prop} (e : b = true) (h : A) : if b = true then A else B := by
  subst e
  exact h
theorem i_f {b : Bool} {A B : Prop} (e : b = false) (h : B) : if b = true then A else B := by
  subst e
  exact h

theorem l_int1 {i : Int} (q : Q (.int i) H) : rInt [.int i] H Q := Or.inl ⟨i, rfl, q⟩
theorem l_int1b {b : Bool} (q : Q (.int (if b then 1 else 0)) H) : rInt [.bl b] H Q := Or.inr ⟨b, rfl, q⟩
theorem l_abs {i : Int} (q : Q (.int (if i < 0 then -i else i)) H) : rAbs [.int i] H Q := ⟨i, rfl, q⟩
theorem l_max2 {i j : Int} (q : Q (.int (if j > i then j else i)) H) : rMax2 [.int i, .int j] H Q := ⟨i, j, rfl, q⟩
theorem l_min2 {i j : Int} (q : Q (.int (if j < i then j else i)) H) : rMin2 [.int i, .int j] H Q := ⟨i, j, rfl, q⟩
theorem l_lenL {p : Addr} {xs : List V} (h : SqL K H p xs) (q : Q (.int (xs.length : Nat)) H) : rLen K [.ref p] H Q := ⟨_, _, rfl, Or.inl ⟨xs, h, rfl⟩, q⟩
theorem l_lenT {p : Addr} {xs : List V} (h : SqT K H p xs) (q : Q (.int (xs.length : Nat)) H) : rLen K [.ref p] H Q := ⟨_, _, rfl, Or.inr ⟨xs, h, rfl⟩, q⟩
theorem l_lenS {y : Str} (h : y.length ≤ sizeLine) (q : Q (.int (y.length : Nat)) H) : rLen K [.str y] H Q := ⟨_, _, rfl, ⟨h, rfl⟩, q⟩
theorem l_addS {y z : Str} (h : y.length + z.length ≤ sizeLine) (q : Q (.str (y ++ z)) H) : rAddStr (.str y) (.str z) H Q := ⟨y, z, rfl, rfl, h, q⟩
theorem l_leS {y z : Str} (q : Q (.bl (!decide (z.cps.toList < y.cps.toList))) H) : rLeStr (.str y) (.str z) H Q := ⟨y, z, rfl, rfl, q⟩
theorem l_listL {p : Addr} {xs : List V} (h : SqL K H p xs) (q : ∀ l G, H l = none → L2.Same H G → G l = some (.lst xs) → Q (.ref l) G) : rListOf K [.ref p] H Q := ⟨p, xs, rfl, Or.inl h, fun l n => q l _ n (same0 n) upd_same⟩
theorem l_listT {p : Addr} {xs : List V} (h : SqT K H p xs) (q : ∀ l G, H l = none → L2.Same H G → G l = some (.lst xs) → Q (.ref l) G) : rListOf K [.ref p] H Q := ⟨p, xs, rfl, Or.inr h, fun l n => q l _ n (same0 n) upd_same⟩
theorem l_ixL {p : Addr} {xs : List V} {i : Int} (h : SqL K H p xs) (a : atI xs i = some v) (q : Q v H) : rIxL K (.ref p) (.int i) H Q := ⟨p, xs, i, v, rfl, rfl, h, a, q⟩
theorem at_in {xs : List V} {i : Int} (h0 : 0 ≤ i) (h1 : i < (xs.length : Int)) : ∃ x, x ∈ xs ∧ xs[i.toNat]? = some x ∧ atI xs i = some x := by
  have hl : i.toNat < xs.length := by omega
  refine ⟨xs[i.toNat], List.getElem_mem hl, List.getElem?_eq_getElem hl, ?_⟩
  have e : atI xs ((i.toNat : Nat) : Int) = some xs[i.toNat] := atI_nat (List.getElem?_eq_getElem hl)
  rwa [Int.toNat_of_nonneg h0] at e

/-! ### heaps: what is kept -/
/-- all but the object at d is kept -/
def Keep (d : Addr) (H G : Hp) : Prop := ∀ b o, b ≠ d → H b = some o → G b = some o
theorem Keep.refl {d : Addr} (H : Hp) : Keep d H H := fun _ _ _ z => z
theorem Keep.trans {d : Addr} {H G J : Hp} (a : Keep d H G) (b : Keep d G J) : Keep d H J := fun x o n z => b x o n (a x o n z)
theorem Keep.of {d : Addr} {H G : Hp} (a : Same H G) : Keep d H G := fun b o _ z => a b o z
theorem Keep.new {d p : Addr} {H G : Hp} {o : HO} (a : Keep d H G) (n : G p = none) : Keep d H (upd G p o) := fun b u nd z => by
  have k := a b u nd z
  rw [upd_ne (ne_of_none k n)]
  exact k
theorem Keep.set {d : Addr} {H G : Hp} {o : HO} (a : Keep d H G) : Keep d H (upd G d o) := fun b u nd z => by
  rw [upd_ne nd]
  exact a b u nd z
theorem Same.new {H G : Hp} {p : Addr} {o : HO} (a : Same H G) (n : G p = none) : Same H (upd G p o) := fun b u z => by
  have k := a b u z
  rw [upd_ne (ne_of_none k n)]
  exact k
theorem Same.upd0 {H : Hp} {p : Addr} {o : HO} (n : H p = none) : Same H (upd H p o) := Same.new (Same.refl H) n
/-- an object unknown to H may be set -/
theorem Same.setNew {H G : Hp} {p : Addr} {o : HO} (a : Same H G) (n : H p = none) : Same H (upd G p o) := fun b u z => by
  rw [upd_ne (ne_of_none z n)]
  exact a b u z
theorem rd_keep {d a : Addr} {H G : Hp} {u : HO} (k : Keep d H G) (n : a ≠ d) (h : Rd H a u) : Rd G a u := by
  rcases h with h | ⟨o, h⟩
  · exact Or.inl (k _ _ n h)
  · exact Or.inr ⟨o, k _ _ n h⟩
theorem sql_keep {d a : Addr} {H G : Hp} {xs : List V} (k : Keep d H G) (n : a ≠ d) (h : SqL K H a xs) : SqL K G a xs := by
  rcases h with h | h
  · exact Or.inl (rd_keep k n h)
  · exact Or.inr h
theorem sqt_keep {d a : Addr} {H G : Hp} {xs : List V} (k : Keep d H G) (n : a ≠ d) (h : SqT K H a xs) : SqT K G a xs := by
  rcases h with h | h
  · exact Or.inl (rd_keep k n h)
  · exact Or.inr h
theorem sqt_same {a : Addr} {H G : Hp} {xs : List V} (k : Same H G) (h : SqT K H a xs) : SqT K G a xs := by
  rcases h with (h | ⟨o, h⟩) | h
  · exact Or.inl (Or.inl (k _ _ h))
  · exact Or.inl (Or.inr ⟨o, k _ _ h⟩)
  · exact Or.inr h
/-! ### dice: three ints in a list -/
def DiceAt (H : Hp) (d : Addr) : Prop := ∃ a b c : Int, H d = some (.lst [.int a, .int b, .int c])
/-- since H the dice at d have been rolled, new things have been made -/
structure Dc (d : Addr) (H G : Hp) : Prop where
  keep : Keep d H G
  dice : DiceAt G d
theorem Dc.refl {d : Addr} {H : Hp} (h : DiceAt H d) : Dc d H H := ⟨Keep.refl H, h⟩
theorem Dc.trans {d : Addr} {H G J : Hp} (a : Dc d H G) (b : Dc d G J) : Dc d H J := ⟨a.keep.trans b.keep, b.dice⟩
theorem DiceAt.ne {d p : Addr} {H : Hp} (h : DiceAt H d) (n : H p = none) : d ≠ p := by
  obtain ⟨_, _, _, e⟩ := h
  exact ne_of_none e n
theorem DiceAt.same {d : Addr} {H G : Hp} (h : DiceAt H d) (s : Same H G) : DiceAt G d := by
  obtain ⟨a, b, c, e⟩ := h
  exact ⟨a, b, c, s _ _ e⟩
theorem Dc.new {d p : Addr} {H G : Hp} {o : HO} (a : Dc d H G) (n : G p = none) : Dc d H (upd G p o) := by
  refine ⟨a.keep.new n, ?_⟩
  obtain ⟨x, y, z, e⟩ := a.dice
  exact ⟨x, y, z, by rw [upd_ne (ne_of_none e n)]; exact e⟩
theorem Dc.same {d : Addr} {H G J : Hp} (a : Dc d H G) (s : Same G J) : Dc d H J := ⟨a.keep.trans (Keep.of s), a.dice.same s⟩
end

section
variable {K : PySem.W.Frag} {σ : L2.St} {H : Hp} {ta tb tc te tl : TE} {t u : TT} {tar : TA} {x y z v : V} {r r' : R2} {Q : VK} {D : Ends} {s1 s2 tbd : TS} {g : TG} {j : Nat} {vs : List Nat}
theorem s_sub {ti : TE} {st : TSet} {Q : L2.St → Hp → Prop} (q : ta σ H fun o H1 => ti σ H1 fun i H2 => st o i v H2 fun H3 => Q σ H3) : gSub ta ti st v σ H Q := q
theorem s_gnil {Q : L2.St → Hp → Prop} (q : Q σ H) : gNil [] σ H Q := ⟨rfl, q⟩
theorem s_gcons {us : TGs} {w : V} {ws : List V} {Q : L2.St → Hp → Prop} (q : g w σ H fun τ G => us ws τ G Q) : gCons g us (w :: ws) σ H Q := ⟨w, ws, rfl, q⟩
theorem l_gtup {n : Nat} {us : TGs} {p : Addr} {xs : List V} {Q : L2.St → Hp → Prop} (h : SqT K H p xs) (e : xs.length = n) (q : us xs σ H Q) : gTup K n us (.ref p) σ H Q := ⟨p, xs, rfl, h, e, q⟩
theorem s_slice {rr : V → Option Int → Option Int → Hp → VK → Prop} {lo hi : TO} (q : te σ H fun x H1 => lo σ H1 fun l H2 => hi σ H2 fun w H3 => rr x l w H3 Q) : tSl rr te lo hi σ H Q := q
theorem s_nopart {Q : Option Int → Hp → Prop} (q : Q none H) : tNoPart σ H Q := q
def rPart (Q : Option Int → Hp → Prop) : V → Hp → Prop := fun x H1 => ∃ i, x = .int i ∧ Q (some i) H1
theorem s_part {Q : Option Int → Hp → Prop} (q : te σ H fun x H1 => rPart Q x H1) : tPart te σ H Q := q
theorem l_part {i : Int} {Q : Option Int → Hp → Prop} (q : Q (some i) H) : rPart Q (.int i) H := ⟨i, rfl, q⟩
theorem l_slS {y : Str} {lo hi : Option Int} (h : y.length ≤ sizeLine) (q : Q (.str (cutS y lo hi)) H) : rSlS (.str y) lo hi H Q := ⟨y, rfl, h, q⟩
theorem l_ixS {y : Str} {i : Int} {c : Nat} (h : y.length ≤ sizeLine) (e : atI y.cps.toList i = some c) (q : Q (.str ⟨#[c]⟩) H) : rIxS (.str y) (.int i) H Q := ⟨y, i, c, rfl, rfl, h, e, q⟩
theorem l_inS {c : Nat} {y : Str} (q : Q (.bl (decide (c ∈ y.cps.toList))) H) : rInS (.str ⟨#[c]⟩) (.str y) H Q := ⟨c, y, rfl, rfl, q⟩
theorem l_ninS {c : Nat} {y : Str} (q : Q (.bl (!decide (c ∈ y.cps.toList))) H) : rNinS (.str ⟨#[c]⟩) (.str y) H Q := ⟨c, y, rfl, rfl, q⟩
theorem l_all {p : Addr} {bs : List Bool} (h : SqL K H p (bs.map V.bl)) (q : Q (.bl (bs.all id)) H) : rAll K [.ref p] H Q := ⟨p, bs, rfl, h, q⟩
theorem l_eqD {d e : PyData} (hd : Dp K H x d) (he : Dp K H y e) (s1 : SeqAt.shaped d = true) (s2 : SeqAt.shaped e = true) (q : Q (.bl (PyData.eqv d e)) H) : rEqD K x y H Q := ⟨d, e, hd, he, s1, s2, q⟩
theorem l_neD {d e : PyData} (hd : Dp K H x d) (he : Dp K H y e) (s1 : SeqAt.shaped d = true) (s2 : SeqAt.shaped e = true) (q : Q (.bl (!PyData.eqv d e)) H) : rNeD K x y H Q := ⟨d, e, hd, he, s1, s2, q⟩
theorem l_repr {p : Addr} {d : PyData} (hd : Dp K H (.ref p) d) (h1 : d.showable = true) (h2 : d.hasDict = false) (h3 : d.depth ≤ 60) (h4 : d.shown.length ≤ sizeLine) (q : Q (.str d.shown) H) : rRepr K [.ref p] H Q := ⟨p, d, rfl, hd, h1, h2, h3, h4, q⟩
theorem l_cat {p q : Addr} {xs ys : List V} (hp : H p = some (.lst xs)) (hq : H q = some (.lst ys)) (sz : xs.length + ys.length ≤ sizeLine) (k : ∀ l G, H l = none → Same H G → G l = some (.lst (xs ++ ys)) → Q (.ref l) G) : rCat (.ref p) (.ref q) H Q := ⟨p, q, xs, ys, rfl, rfl, hp, hq, sz, fun l n => k l _ n (same0 n) upd_same⟩
theorem l_rep {p : Addr} {i : Int} {xs : List V} (hp : H p = some (.lst xs)) (h1 : -(2 ^ 63) ≤ i) (h2 : i < 2 ^ 63) (sz : xs.length * i.toNat ≤ sizeLine) (k : ∀ l G, H l = none → Same H G → G l = some (.lst (List.replicate i.toNat xs).flatten) → Q (.ref l) G) : rRep (.ref p) (.int i) H Q := ⟨p, i, xs, rfl, rfl, hp, h1, h2, sz, fun l n => k l _ n (same0 n) upd_same⟩
theorem l_times {y : Str} {n : Nat} (h2 : 2 ≤ n) (h1 : 1 ≤ y.length) (hz : y.length * n ≤ 1000000) (q : Q (.str ⟨(List.replicate n y.cps).foldl (· ++ ·) #[]⟩) H) : rTimes (.str y) (.int (n : Int)) H Q := ⟨y, n, rfl, rfl, h2, h1, hz, q⟩

def RPar (i j : Nat) (D : Ends) (σ : L2.St) (vs : List V) (H1 : Hp) : Prop := ∃ v w, vs = [v, w] ∧ D.nx ((σ.set i (some v)).set j (some w)) H1
theorem s_par {i j : Nat} (q : tar σ H fun vs H1 => RPar i j D σ vs H1) : tPar i j tar D σ H := q
theorem l_par {i j : Nat} {v w : V} (q : D.nx ((σ.set i (some v)).set j (some w)) H) : RPar i j D σ [v, w] H := ⟨v, w, rfl, q⟩
def RPar3 (i j l : Nat) (D : Ends) (σ : L2.St) (vs : List V) (H1 : Hp) : Prop := ∃ u v w, vs = [u, v, w] ∧ D.nx (((σ.set i (some u)).set j (some v)).set l (some w)) H1
theorem s_par3 {i j l : Nat} (q : tar σ H fun vs H1 => RPar3 i j l D σ vs H1) : tPar3 i j l tar D σ H := q
theorem l_par3 {i j l : Nat} {u v w : V} (q : D.nx (((σ.set i (some u)).set j (some v)).set l (some w)) H) : RPar3 i j l D σ [u, v, w] H := ⟨u, v, w, rfl, q⟩
/-- a join: M holds behind the first part, the second part is read from M on -/
theorem s_cut (M : L2.St → Hp → Prop) (q : s1 { D with nx := M } σ H) (k : ∀ τ G, M τ G → s2 D τ G) : Evl.tCut s1 s2 D σ H := ⟨M, q, k⟩
/-! ### walks -/
def WFor (J : It) (g : TG) (tb : TS) (D : Ends) (σ : L2.St) (H1 : Hp) : Prop := ∃ W : Nat → Nat → L2.St → Hp → Prop, (∃ m, W 0 m σ H1) ∧ ∀ i m σ H, W i m σ H →
  (J.stop i H ∧ D.nx σ H) ∨ (J.go i H ∧ ∃ N : L2.St → Hp → Prop, (∀ σ' H', N σ' H' → ∃ m', m' < m ∧ W (i + 1) m' σ' H') ∧ ∀ x H', J.yld i H x H' → g x σ H' fun σ2 H2 => tb { D with nx := N, ct := N, bk := D.nx } σ2 H2)
def RFor (g : TG) (tb : TS) (D : Ends) (σ : L2.St) (us : List V) (H1 : Hp) : Prop := ∃ n : Int, us = [.int n] ∧ -(2 ^ 62) ≤ n ∧ n < 2 ^ 62 ∧ WFor (Itr 0 n.toNat) g tb D σ H1
theorem s_forR (q : tar σ H fun us H1 => RFor g tbd D σ us H1) : tFor (iRng1 tar) g tbd D σ H := q
theorem l_forR {n : Int} (h0 : -(2 ^ 62) ≤ n) (h1 : n < 2 ^ 62) (Pv : Nat → L2.St → Hp → Prop) (a : Pv 0 σ H) (turn : ∀ (i : Nat) σ H, (i : Int) < n → Pv i σ H → g (.int (i : Int)) σ H fun σ2 H2 => tbd { D with nx := Pv (i + 1), ct := Pv (i + 1), bk := D.nx } σ2 H2)
    (done : ∀ σ H, Pv n.toNat σ H → D.nx σ H) : RFor g tbd D σ [.int n] H :=
  ⟨n, rfl, h0, h1, for_range (lo := 0) Pv a (fun i σ H hi p => by
    have e : (0 : Int) + (i : Int) = (i : Int) := Int.zero_add _
    rw [e]
    exact turn i σ H (by omega) p) done⟩
def TFor (K : PySem.W.Frag) (g : TG) (tb : TS) (D : Ends) (σ : L2.St) (x : V) (H1 : Hp) : Prop := ∃ a, x = .ref a ∧ (∃ xs, SqT K H1 a xs) ∧ WFor (Itt K a) g tb D σ H1
theorem s_forT (q : tl σ H fun x H1 => TFor K g tbd D σ x H1) : tFor (iTup K tl) g tbd D σ H := q
theorem l_forT {p : Addr} {xs : List V} (h : SqT K H p xs) (Pv : Nat → L2.St → Hp → Prop) (a : Pv 0 σ H) (stay : ∀ i σ H, i ≤ xs.length → Pv i σ H → SqT K H p xs)
    (turn : ∀ (i : Nat) x σ H, xs[i]? = some x → Pv i σ H → g x σ H fun σ2 H2 => tbd { D with nx := Pv (i + 1), ct := Pv (i + 1), bk := D.nx } σ2 H2) (done : ∀ σ H, Pv xs.length σ H → D.nx σ H) : TFor K g tbd D σ (.ref p) H :=
  ⟨p, rfl, ⟨xs, h⟩, for_tup Pv a stay turn done⟩

/-! ### comprehensions whose parts leave what is there -/
def WLc (J : It) (g : TG) (tt : TT) (te : TE) (vs : List Nat) (σ : L2.St) (Q : VK) (H1 : Hp) : Prop := ∀ D, H1 D = none → ∃ W : Nat → Nat → Hp → Prop, (∃ m, W 0 m (upd H1 D (.lst []))) ∧ ∀ i m H, W i m H →
  (J.stop i H ∧ Q (.ref D) H) ∨ (J.go i H ∧ ∃ Nx : Hp → Prop, (∀ H', Nx H' → ∃ m', m' < m ∧ W (i + 1) m' H') ∧ ∀ x H', J.yld i H x H' → g x (wipe σ vs) H' fun σ2 H2 => wipe σ2 vs = wipe σ vs ∧ tt σ2 H2 fun b H3 =>
    if b = true then te σ2 H3 fun y H4 => ∃ acc, H4 D = some (.lst acc) ∧ acc.length < sizeLine ∧ Nx (upd H4 D (.lst (acc ++ [y]))) else Nx H3)
theorem take_succ_of {xs : List V} {i : Nat} {x : V} (h : xs[i]? = some x) : xs.take (i + 1) = xs.take i ++ [x] := by
  rw [List.take_add_one, h]
  rfl
/-- a test, an expression evaluates to this, leaving what is there -/
def ToB (t : TT) (τ : L2.St) (G : Hp) (b : Bool) : Prop := ∀ R : Bool → Hp → Prop, (∀ G', Same G G' → R b G') → t τ G R
def ToV (t : TE) (τ : L2.St) (G : Hp) (v : V) : Prop := ∀ R : VK, (∀ G', Same G G' → R v G') → t τ G R
theorem wlc_of {J : It} {xs : List V} {Gd : Hp → Prop} (w : Walk J xs.length Gd (YAt xs)) (stay : ∀ G, Same H G → Gd G) (keep : V → Bool) (f : V → V) (short : xs.length ≤ 100000)
    (test : ∀ x ∈ xs, ∀ G, Same H G → ToB t ((wipe σ [j]).set j (some x)) G (keep x)) (val : ∀ x ∈ xs, keep x = true → ∀ G, Same H G → ToV te ((wipe σ [j]).set j (some x)) G (f x))
    (fin : ∀ D G, H D = none → Same H G → G D = some (.lst ((xs.filter keep).map f)) → Q (.ref D) G) : WLc J (gName j) t te [j] σ Q H := by
  intro D hD
  refine lc_it w (fun i G => Same H G ∧ G D = some (.lst (((xs.take i).filter keep).map f))) ⟨Same.upd0 hD, upd_same⟩ (fun i G _ p => stay G p.1) ?_ (fun G p => ?_)
  · intro i x G G' hi p y
    obtain ⟨rfl, hx⟩ := y
    have mem : x ∈ xs := List.mem_of_getElem? hx
    have tk := take_succ_of hx
    refine s_name ⟨?_, ?_⟩
    · show (((σ.set j none).set j (some x)).set j none) = σ.set j none
      rw [List.set_set, List.set_set]
    refine test x mem _ p.1 _ fun G1 e1 => ?_
    cases hk : keep x with
    | false =>
      refine i_f rfl ⟨p.1.trans e1, ?_⟩
      rw [tk, List.filter_append, List.filter_cons, if_neg (by rw [hk]; exact Bool.false_ne_true), List.filter_nil, List.append_nil]
      exact e1 _ _ p.2
    | true =>
      refine i_t rfl ?_
      refine val x mem hk _ (p.1.trans e1) _ fun G2 e2 => ?_
      refine ⟨_, e2 _ _ (e1 _ _ p.2), ?_, Same.setNew ((p.1.trans e1).trans e2) hD, ?_⟩
      · have h1 : ((xs.take i).filter keep).length ≤ (xs.take i).length := List.length_filter_le _ _
        have h2 : (xs.take i).length ≤ xs.length := by rw [List.length_take]; omega
        rw [List.length_map, sizeLine_eq]
        omega
      · rw [upd_same, tk, List.filter_append, List.filter_cons, if_pos hk, List.filter_nil, List.map_append]
        rfl
  · rw [List.take_length] at p
    exact fin D G hD p.1 p.2
def TxtLc (g : TG) (tt : TT) (te : TE) (vs : List Nat) (σ : L2.St) (Q : VK) (v : V) (H1 : Hp) : Prop := ∃ z, v = .str z ∧ WLc (Its z) g tt te vs σ Q H1
theorem s_lcS (q : tl σ H fun v H1 => TxtLc g t te vs σ Q v H1) : tLc (iStr tl) g t te vs σ H Q := q
def signV (c : Nat) : V := .str ⟨#[c]⟩
theorem walk_signs {z : Str} : Walk (Its z) (z.cps.toList.map signV).length (fun _ => True) (YAt (z.cps.toList.map signV)) := by
  have e : (z.cps.toList.map signV).length = z.cps.size := by rw [List.length_map, Array.length_toList]
  rw [e]
  refine walk_str.mono (fun _ _ => trivial) fun i H x H' hi _ y => ?_
  obtain ⟨rfl, c, hc, rfl⟩ := y
  refine ⟨rfl, ?_⟩
  rw [List.getElem?_map, Array.getElem?_toList, hc]
  rfl
theorem l_lcS {y : Str} (keep : V → Bool) (f : V → V) (short : y.length ≤ 100000) (test : ∀ c ∈ y.cps.toList, ∀ G, Same H G → ToB t ((wipe σ [j]).set j (some (signV c))) G (keep (signV c)))
    (val : ∀ c ∈ y.cps.toList, keep (signV c) = true → ∀ G, Same H G → ToV te ((wipe σ [j]).set j (some (signV c))) G (f (signV c)))
    (fin : ∀ D G, H D = none → Same H G → G D = some (.lst (((y.cps.toList.map signV).filter keep).map f)) → Q (.ref D) G) : TxtLc (gName j) t te [j] σ Q (.str y) H := by
  refine ⟨y, rfl, wlc_of walk_signs (fun _ _ => trivial) keep f ?_ ?_ ?_ fin⟩
  · rw [List.length_map, Array.length_toList]
    exact short
  · intro x hx
    obtain ⟨c, hc, rfl⟩ := List.mem_map.mp hx
    exact test c hc
  · intro x hx
    obtain ⟨c, hc, rfl⟩ := List.mem_map.mp hx
    exact val c hc
def LstLc (K : PySem.W.Frag) (g : TG) (tt : TT) (te : TE) (vs : List Nat) (σ : L2.St) (Q : VK) (x : V) (H1 : Hp) : Prop := ∃ a, x = .ref a ∧ (∃ xs, SqL K H1 a xs) ∧ WLc (Itl K a) g tt te vs σ Q H1
theorem s_lcL (q : tl σ H fun v H1 => LstLc K g t te vs σ Q v H1) : tLc (iList K tl) g t te vs σ H Q := q
theorem l_lcL {p : Addr} {xs : List V} (h : SqL K H p xs) (keep : V → Bool) (f : V → V) (short : xs.length ≤ 100000) (test : ∀ x ∈ xs, ∀ G, Same H G → ToB t ((wipe σ [j]).set j (some x)) G (keep x))
    (val : ∀ x ∈ xs, keep x = true → ∀ G, Same H G → ToV te ((wipe σ [j]).set j (some x)) G (f x)) (fin : ∀ D G, H D = none → Same H G → G D = some (.lst ((xs.filter keep).map f)) → Q (.ref D) G) : LstLc K (gName j) t te [j] σ Q (.ref p) H :=
  ⟨p, rfl, ⟨xs, h⟩, wlc_of walk_list (fun _ s => s.seq h) keep f short test val fin⟩
def TupLc (K : PySem.W.Frag) (g : TG) (tt : TT) (te : TE) (vs : List Nat) (σ : L2.St) (Q : VK) (x : V) (H1 : Hp) : Prop := ∃ a, x = .ref a ∧ (∃ xs, SqT K H1 a xs) ∧ WLc (Itt K a) g tt te vs σ Q H1
theorem s_lcT (q : tl σ H fun v H1 => TupLc K g t te vs σ Q v H1) : tLc (iTup K tl) g t te vs σ H Q := q
theorem l_lcT {p : Addr} {xs : List V} (h : SqT K H p xs) (keep : V → Bool) (f : V → V) (short : xs.length ≤ 100000) (test : ∀ x ∈ xs, ∀ G, Same H G → ToB t ((wipe σ [j]).set j (some x)) G (keep x))
    (val : ∀ x ∈ xs, keep x = true → ∀ G, Same H G → ToV te ((wipe σ [j]).set j (some x)) G (f x)) (fin : ∀ D G, H D = none → Same H G → G D = some (.lst ((xs.filter keep).map f)) → Q (.ref D) G) : TupLc K (gName j) t te [j] σ Q (.ref p) H :=
  ⟨p, rfl, ⟨xs, h⟩, wlc_of walk_tup (fun _ s => sqt_same s h) keep f short test val fin⟩
end

/-! ### rows of data of which each item has a property -/
section
variable {K : PySem.W.Frag} {σ : L2.St} {H : Hp} {te : TE} {tar : TA} {x y z v : V} {Q : VK} {Pr : Hp → V → Prop}
theorem l_new {o : HO} (k : ∀ p G, H p = none → Same H G → G p = some o → Q (.ref p) G) : ∀ p, H p = none → Q (.ref p) (upd H p o) := fun p n => k p _ n (Same.upd0 n) upd_same
/-- from H0 on: an expression gives a value with Pr, a row n such values -/
def ToP (H0 : Hp) (Pr : Hp → V → Prop) (te : TE) (σ : L2.St) : Prop := ∀ H, Same H0 H → ∀ Q : VK, (∀ v G, Same H G → Pr G v → Q v G) → te σ H Q
def AllA (H0 : Hp) (Pr : Hp → V → Prop) (n : Nat) (tar : TA) (σ : L2.St) : Prop := ∀ H, Same H0 H → ∀ Q : List V → Hp → Prop, (∀ vs G, Same H G → vs.length = n → (∀ v ∈ vs, Pr G v) → Q vs G) → tar σ H Q
variable {H0 : Hp}
theorem use_all {n : Nat} {Q : List V → Hp → Prop} (s : Same H0 H) (a : AllA H0 Pr n tar σ) (k : ∀ vs G, Same H G → vs.length = n → (∀ v ∈ vs, Pr G v) → Q vs G) : tar σ H Q := a H s Q k
theorem allA_nil : AllA H0 Pr 0 tNil σ := fun H _ Q k => k [] H (Same.refl H) rfl fun _ h => nomatch h
theorem allA_cons {n : Nat} (mono : ∀ G G' v, Same G G' → Pr G v → Pr G' v) (h1 : ToP H0 Pr te σ) (h2 : AllA H0 Pr n tar σ) : AllA H0 Pr (n + 1) (tCons te tar) σ := fun H s0 Q k =>
  h1 H s0 _ fun v G s p => h2 G (s0.trans s) _ fun vs G' s' len all => k (v :: vs) G' (s.trans s') (by rw [List.length_cons, len]) fun u hu => by
    rcases List.mem_cons.mp hu with e | hu
    · subst e
      exact mono G G' _ s' p
    · exact all u hu
theorem toP_c (p : ∀ G, Pr G v) : ToP H0 Pr (tC v) σ := fun H _ _ k => k v H (Same.refl H) (p H)
end

/-! ### kinds of values: texts, and what is none -/
def NotStr (K : PySem.W.Frag) (H : Hp) (x : V) : Prop := ∃ t, TyX K H x t ∧ PySem.W.kitOne K t (.type "str") = some false
theorem NotStr.non {K : PySem.W.Frag} {H : Hp} : NotStr K H .non := ⟨_, .base .non, kit_ty (by decide +kernel)⟩
theorem NotStr.bl {K : PySem.W.Frag} {H : Hp} {b : Bool} : NotStr K H (.bl b) := ⟨_, .base (.bl b), kit_ty (by decide +kernel)⟩
theorem NotStr.int {K : PySem.W.Frag} {H : Hp} {i : Int} : NotStr K H (.int i) := ⟨_, .base (.int i), kit_ty (by decide +kernel)⟩
/-- a value of the kinds that are drawn: a short text of plain signs; or none, and then not at d -/
def Txt1 (s : Str) : Prop := s.length ≤ 400 ∧ ∀ c ∈ s.cps.toList, c < 128
def ListAt (H : Hp) (a : Addr) : Prop := (∃ xs, H a = some (.lst xs)) ∨ (∃ xs, H a = some (.tup xs)) ∨ ∃ kvs, H a = some (.dK kvs)
def OddV (x : V) (H : Hp) : Prop := (∃ s, x = .str s ∧ Txt1 s) ∨ x = .non ∨ (∃ b, x = .bl b) ∨ (∃ i, x = .int i) ∨ ∃ a, x = .ref a ∧ ListAt H a
theorem ListAt.same {H G : Hp} {a : Addr} (s : Same H G) (h : ListAt H a) : ListAt G a := by
  rcases h with ⟨xs, e⟩ | ⟨xs, e⟩ | ⟨xs, e⟩
  · exact Or.inl ⟨xs, s _ _ e⟩
  · exact Or.inr (Or.inl ⟨xs, s _ _ e⟩)
  · exact Or.inr (Or.inr ⟨xs, s _ _ e⟩)
theorem ListAt.keep {H G : Hp} {a d : Addr} (s : Keep d H G) (n : a ≠ d) (h : ListAt H a) : ListAt G a := by
  rcases h with ⟨xs, e⟩ | ⟨xs, e⟩ | ⟨xs, e⟩
  · exact Or.inl ⟨xs, s _ _ n e⟩
  · exact Or.inr (Or.inl ⟨xs, s _ _ n e⟩)
  · exact Or.inr (Or.inr ⟨xs, s _ _ n e⟩)
theorem OddV.same {H G : Hp} {x : V} (s : Same H G) (h : OddV x H) : OddV x G := by
  rcases h with h | h | h | h | ⟨a, e, h⟩
  · exact Or.inl h
  · exact Or.inr (Or.inl h)
  · exact Or.inr (Or.inr (Or.inl h))
  · exact Or.inr (Or.inr (Or.inr (Or.inl h)))
  · exact Or.inr (Or.inr (Or.inr (Or.inr ⟨a, e, h.same s⟩)))
theorem OddV.keep_ne {H G : Hp} {x : V} {d : Addr} (h : OddV x H) (hd : DiceAt H d) (s : Keep d H G) (n : x ≠ .ref d) : OddV x G := by
  rcases h with h | h | h | h | ⟨a, e, h⟩
  · exact Or.inl h
  · exact Or.inr (Or.inl h)
  · exact Or.inr (Or.inr (Or.inl h))
  · exact Or.inr (Or.inr (Or.inr (Or.inl h)))
  · exact Or.inr (Or.inr (Or.inr (Or.inr ⟨a, e, h.keep s fun z => n (by rw [e, z])⟩)))
theorem OddV.dc {H G : Hp} {x : V} {d : Addr} (h : OddV x H) (c : Dc d H G) : OddV x G := by
  by_cases e : x = .ref d
  · obtain ⟨_, _, _, z⟩ := c.dice
    exact Or.inr (Or.inr (Or.inr (Or.inr ⟨d, e, Or.inl ⟨_, z⟩⟩)))
  · rcases h with h | h | h | h | ⟨a, e', h⟩
    · exact Or.inl h
    · exact Or.inr (Or.inl h)
    · exact Or.inr (Or.inr (Or.inl h))
    · exact Or.inr (Or.inr (Or.inr (Or.inl h)))
    · exact Or.inr (Or.inr (Or.inr (Or.inr ⟨a, e', h.keep c.keep fun z => e (by rw [e', z])⟩)))
theorem OddV.cases {K : PySem.W.Frag} {H : Hp} {x : V} (h : OddV x H) : (∃ s, x = .str s ∧ Txt1 s) ∨ NotStr K H x := by
  rcases h with h | rfl | ⟨b, rfl⟩ | ⟨i, rfl⟩ | ⟨a, rfl, h⟩
  · exact Or.inl h
  · exact Or.inr NotStr.non
  · exact Or.inr NotStr.bl
  · exact Or.inr NotStr.int
  · refine Or.inr ?_
    rcases h with ⟨xs, e⟩ | ⟨xs, e⟩ | ⟨xs, e⟩
    · exact ⟨_, .base (.lst e), kit_ty (by decide +kernel)⟩
    · exact ⟨_, .base (.tup e), kit_ty (by decide +kernel)⟩
    · exact ⟨_, .base (.dK e), kit_ty (by decide +kernel)⟩
/-- isinstance(x, str) -/
theorem l_isStr {K : PySem.W.Frag} {H : Hp} {Q : VK} {s : Str} (q : Q (.bl true) H) : rIsi K [.str s, .ty "str"] H Q := ⟨_, _, _, _, true, rfl, .ty "str", .base (.str s), kit_ty (by decide +kernel), q⟩
theorem l_notStr {K : PySem.W.Frag} {H : Hp} {Q : VK} {x : V} (h : NotStr K H x) (q : Q (.bl false) H) : rIsi K [x, .ty "str"] H Q := by
  obtain ⟨t, h1, h2⟩ := h
  exact ⟨_, _, _, _, false, rfl, .ty "str", h1, h2, q⟩
theorem same_keep {d : Addr} {H G J : Hp} (s : Same H G) (n : H d = none) (k : Keep d G J) : Same H J := fun b o e => k b o (ne_of_none e n) (s b o e)
/-- signs of a part of a text are signs of the text -/
theorem cutS_mem {z : Str} {lo hi : Option Int} {c : Nat} (h : c ∈ (cutS z lo hi).cps.toList) : c ∈ z.cps.toList := by
  unfold cutS at h
  exact List.mem_of_mem_drop (List.mem_of_mem_take h)
theorem cutS_len {z : Str} {lo hi : Option Int} : (cutS z lo hi).length ≤ z.length := by
  unfold cutS
  show (((z.cps.toList.drop _).take _).toArray).size ≤ z.cps.size
  rw [List.size_toArray, List.length_take, List.length_drop, Array.length_toList]
  omega
theorem append_len (y z : Str) : (y ++ z).length = y.length + z.length := by
  show (y.cps ++ z.cps).size = _
  rw [Array.size_append]
  rfl
theorem append_mem {y z : Str} {c : Nat} (h : c ∈ (y ++ z).cps.toList) : c ∈ y.cps.toList ∨ c ∈ z.cps.toList := by
  have e : (y ++ z).cps.toList = y.cps.toList ++ z.cps.toList := by
    show (y.cps ++ z.cps).toList = _
    rw [Array.toList_append]
  rw [e] at h
  exact List.mem_append.mp h
end G9

/-! Texts: isascii, islower; small letters told by them. -/
namespace G9
open PySem PySem.Spec PyProof.Rows L2
section
variable {X : Cx}
theorem mt_isascii : MtR X "str.isascii" (fun x xs H Q => ∃ a, x = .str a ∧ xs = [] ∧ True ∧ Q (.bl (Txt.isascii a)) H) :=
  mt0 (C := fun _ => True) (g := fun a => .bl (Txt.isascii a)) fun _ _ s _ _ h => PySem.SC.isascii (h _ s.toks rfl)
theorem mt_islower : MtR X "str.islower" (fun x xs H Q => ∃ a, x = .str a ∧ xs = [] ∧ True ∧ Q (.bl (Txt.islower a)) H) :=
  mt0 (C := fun _ => True) (g := fun a => .bl (Txt.islower a)) fun _ _ s _ _ h => PySem.SC.islower (h _ s.toks rfl)
def rTold (f : Str → Bool) : V → List V → Hp → VK → Prop := fun x xs H Q => ∃ a, x = .str a ∧ xs = [] ∧ True ∧ Q (.bl (f a)) H
def tToldM (f : Str → Bool) (to : TE) : TE := tM0 (rTold f) to
section
variable {σ : L2.St} {H : Hp} {to : TE} {Q : VK} {f : Str → Bool}
theorem s_told (q : to σ H fun x H1 => ∃ a, x = .str a ∧ Q (.bl (f a)) H1) (mono : ∀ (R R' : VK), (∀ v G, R v G → R' v G) → to σ H R → to σ H R') : tM0 (rTold f) to σ H Q := by
  refine mono _ _ (fun v G h => ?_) q
  obtain ⟨a, rfl, q⟩ := h
  exact ⟨⟨a, rfl⟩, a, rfl, rfl, trivial, q⟩
theorem l_told {i : Nat} {a : Str} (h : σ[i]? = some (some (.str a))) (q : Q (.bl (f a)) H) : tM0 (rTold f) (tVar i) σ H Q := ⟨_, h, ⟨a, rfl⟩, a, rfl, rfl, trivial, q⟩
end
end
theorem _root_.List.all_congr_of {α : Type} {f g : α → Bool} : ∀ {l : List α}, (∀ x ∈ l, f x = g x) → l.all f = l.all g
  | [], _ => rfl
  | x :: l, h => by rw [List.all_cons, List.all_cons, h x List.mem_cons_self, List.all_congr_of fun y hy => h y (List.mem_cons_of_mem _ hy)]
theorem _root_.List.any_congr_of {α : Type} {f g : α → Bool} : ∀ {l : List α}, (∀ x ∈ l, f x = g x) → l.any f = l.any g
  | [], _ => rfl
  | x :: l, h => by rw [List.any_cons, List.any_cons, h x List.mem_cons_self, List.any_congr_of fun y hy => h y (List.mem_cons_of_mem _ hy)]
theorem ascii_alpha : ∀ c : Fin 128, Unicode.isAlpha c.val = (decide (65 ≤ c.val ∧ c.val ≤ 90) || decide (97 ≤ c.val ∧ c.val ≤ 122)) := by decide +kernel
theorem ascii_lower : ∀ c : Fin 128, Unicode.isLower c.val = decide (97 ≤ c.val ∧ c.val ≤ 122) := by decide +kernel
theorem ascii_upper : ∀ c : Fin 128, (Unicode.isUpper c.val || Unicode.isTitle c.val) = decide (65 ≤ c.val ∧ c.val ≤ 90) := by decide +kernel
theorem isascii_of {s : Str} (h : ∀ c ∈ s.cps.toList, c < 128) : Txt.isascii s = true := by
  unfold Txt.isascii
  rw [← Array.all_toList, List.all_eq_true]
  intro c hc
  exact decide_eq_true (h c hc)
def smallC (c : Nat) : Bool := decide (97 ≤ c) && decide (c ≤ 122)
theorem small_told {s : Str} (h : ∀ c ∈ s.cps.toList, c < 128) (n : 1 ≤ s.length) : (Txt.isalpha s && Txt.islower s) = s.cps.toList.all smallC := by
  have hl : s.cps.toList ≠ [] := by
    intro e
    have : s.cps.toList.length = 0 := by rw [e]; rfl
    rw [Array.length_toList] at this
    have n' : 1 ≤ s.cps.size := n
    omega
  have ea : Txt.isalpha s = s.cps.toList.all fun c => decide (65 ≤ c ∧ c ≤ 90) || decide (97 ≤ c ∧ c ≤ 122) := by
    unfold Txt.isalpha
    rw [decide_eq_true (show s.length > 0 from n), Bool.true_and, ← Array.all_toList]
    exact List.all_congr_of fun c hc => ascii_alpha ⟨c, h c hc⟩
  have el : Txt.islower s = (s.cps.toList.any (fun c => decide (97 ≤ c ∧ c ≤ 122)) && !s.cps.toList.any fun c => decide (65 ≤ c ∧ c ≤ 90)) := by
    unfold Txt.islower
    rw [← Array.any_toList, ← Array.any_toList]
    rw [List.any_congr_of (f := Unicode.isLower) (g := fun c => decide (97 ≤ c ∧ c ≤ 122)) fun c hc => ascii_lower ⟨c, h c hc⟩, List.any_congr_of (f := fun c => Unicode.isUpper c || Unicode.isTitle c) (g := fun c => decide (65 ≤ c ∧ c ≤ 90)) fun c hc => ascii_upper ⟨c, h c hc⟩]
  rw [ea, el]
  generalize s.cps.toList = l at hl
  rw [Bool.eq_iff_iff]
  simp only [Bool.and_eq_true, List.all_eq_true, Bool.or_eq_true, decide_eq_true_eq, List.any_eq_true, Bool.not_eq_true', List.any_eq_false, smallC]
  constructor
  · rintro ⟨a, _, u⟩ c hc
    rcases a c hc with q | q
    · exact absurd q (u c hc)
    · exact q
  · intro a
    refine ⟨fun c hc => Or.inr (a c hc), ?_, fun c hc q => ?_⟩
    · cases l with
      | nil => exact absurd rfl hl
      | cons c r => exact ⟨c, List.mem_cons_self, a c List.mem_cons_self⟩
    · have := a c hc
      omega
end G9

namespace K01
open PySem PySem.Spec PyProof.Rows L2 G9
local macro_rules | `(tactic| walk_at "s1") => `(tactic| first
  | ((with_reducible refine' s_var ?hv ?_); (case hv => rfl))
  | (with_reducible refine' s_seq ?_) | (with_reducible refine' s_asg ?_) | (with_reducible refine' s_name ?_) | (with_reducible refine' s_if ?_) | (with_reducible refine' s_ret ?_)
  | (with_reducible refine' s_op ?_) | (with_reducible refine' s_c ?_) | (with_reducible refine' s_cb ?_) | (with_reducible refine' s_cons ?_) | (with_reducible refine' s_nil ?_) | (with_reducible refine' s_consts ?_)
  | (with_reducible refine' s_call ?_) | (with_reducible refine' s_lst ?_) | (with_reducible refine' s_tup ?_) | (with_reducible refine' s_un ?_) | (with_reducible refine' s_next ?_) | (with_reducible refine' s_drop ?_)
  | (with_reducible refine' s_ifE ?_) | (with_reducible refine' s_tb ?_) | (with_reducible refine' s_test ?_) | (with_reducible refine' s_yes ?_) | (with_reducible refine' s_not ?_) | (with_reducible refine' s_and ?_) | (with_reducible refine' s_or ?_)
  | (with_reducible refine' s_andV ?_) | (with_reducible refine' s_orV ?_) | (with_reducible refine' s_notV ?_) | (with_reducible refine' s_chain ?_)
  | (with_reducible refine' s_par ?_) | (with_reducible refine' l_par ?_) | (with_reducible refine' s_par3 ?_) | (with_reducible refine' l_par3 ?_)
  | (with_reducible refine' s_sub ?_) | (with_reducible refine' s_gnil ?_) | (with_reducible refine' s_gcons ?_) | (with_reducible refine' s_slice ?_) | (with_reducible refine' s_nopart ?_) | (with_reducible refine' s_part ?_) | (with_reducible refine' l_part ?_)
  | (with_reducible refine' s_forR ?_) | (with_reducible refine' s_forT ?_) | (with_reducible refine' s_forL ?_) | (with_reducible refine' s_lcS ?_) | (with_reducible refine' s_lcL ?_) | (with_reducible refine' s_lcT ?_)
  | (with_reducible refine' s_fld ?_) | (with_reducible refine' s_setf ?_) | (with_reducible refine' s_ownM ?_) | (with_reducible refine' s_ownP ?_) | (with_reducible refine' s_clsM ?_) | (with_reducible refine' s_dget ?_) | (with_reducible refine' s_makeKW ?_) | (with_reducible refine' s_dcLp ?_)
  | ((with_reducible refine' s_told0 ?hv ?_); (case hv => rfl))
  | (with_reducible refine' l_inS ?_) | (with_reducible refine' l_ninS ?_)
  | ((with_reducible refine' l_slS ?hc ?_); (case hc => first | with_reducible assumption | decide +kernel | omega))
  | (with_reducible refine' l_bl ?_) | (with_reducible refine' l_I0 ?_) | (with_reducible refine' l_U ?_)
  | ((with_reducible refine' l_I ?hc ?_); (case hc => first | decide +kernel | omega | (left; constructor <;> omega) | (right; constructor <;> omega) | (constructor <;> omega)))
  | ((with_reducible refine' l_eq ?hc ?_); (case hc => rfl)) | ((with_reducible refine' l_ne ?hc ?_); (case hc => rfl))
  | (with_reducible refine' l_int1 ?_) | (with_reducible refine' l_int1b ?_) | (with_reducible refine' l_abs ?_) | (with_reducible refine' l_max2 ?_) | (with_reducible refine' l_min2 ?_)
  | ((with_reducible refine' l_addS ?hc ?_); (case hc => first | with_reducible assumption | decide +kernel | omega))
  | (with_reducible refine' l_leS ?_)
  | ((with_reducible refine' l_lenL ?hc ?_); (case hc => first | assumption | exact SqL.of (by assumption)))
  | ((with_reducible refine' l_lenS ?hc ?_); (case hc => first | with_reducible assumption | decide +kernel)))
local macro_rules | `(tactic| walk_at "s") => `(tactic| repeat (walk_at "s1"))
def topS (i : Nat) : Stmt := PySem.Challenge.pw_skipahead_k01_names.main.body.getD i (.Pass ⟨0, 0, 0, 0⟩)
abbrev s_is_name : Stmt := (topS 3)
theorem sc_is_name : FnScope ["value"] ["value"] (defScope s_is_name) := ⟨rfl, rfl, rfl, by decide +kernel, rfl, by decide +kernel, by decide +kernel⟩
abbrev s_is_answer : Stmt := (topS 4)
theorem sc_is_answer : FnScope ["value"] ["value"] (defScope s_is_answer) := ⟨rfl, rfl, rfl, by decide +kernel, rfl, by decide +kernel, by decide +kernel⟩
abbrev s__law_dice : Stmt := (topS 6)
theorem sc__law_dice : FnScope ["script", "at", "cell", "great", "mixed"] ["script", "at"] (defScope s__law_dice) := ⟨rfl, rfl, rfl, by decide +kernel, rfl, by decide +kernel, by decide +kernel⟩
abbrev s__law_roll : Stmt := (topS 7)
theorem sc__law_roll : FnScope ["dice", "total", "found", "one", "two"] ["dice", "total"] (defScope s__law_roll) := ⟨rfl, rfl, rfl, by decide +kernel, rfl, by decide +kernel, by decide +kernel⟩
abbrev s__law_one_of : Stmt := (topS 8)
theorem sc__law_one_of : FnScope ["dice", "items"] ["dice", "items"] (defScope s__law_one_of) := ⟨rfl, rfl, rfl, by decide +kernel, rfl, by decide +kernel, by decide +kernel⟩
abbrev s__law_odd : Stmt := (topS 9)
theorem sc__law_odd : FnScope ["dice", "some"] ["dice"] (defScope s__law_odd) := ⟨rfl, rfl, rfl, by decide +kernel, rfl, by decide +kernel, by decide +kernel⟩
abbrev s__law_is_name : Stmt := (topS 10)
theorem sc__law_is_name : FnScope ["value", "sign"] ["value"] (defScope s__law_is_name) := ⟨rfl, rfl, rfl, by decide +kernel, rfl, by decide +kernel, by decide +kernel⟩
abbrev s__law_is_answer : Stmt := (topS 11)
theorem sc__law_is_answer : FnScope ["value"] ["value"] (defScope s__law_is_answer) := ⟨rfl, rfl, rfl, by decide +kernel, rfl, by decide +kernel, by decide +kernel⟩
abbrev s__law_signs : Stmt := (topS 12)
theorem sc__law_signs : FnScope ["found"] [] (defScope s__law_signs) := ⟨rfl, rfl, rfl, by decide +kernel, rfl, by decide +kernel, by decide +kernel⟩
abbrev s__law_word : Stmt := (topS 13)
theorem sc__law_word : FnScope ["dice", "way", "word", "signs", "turn", "at"] ["dice"] (defScope s__law_word) := ⟨rfl, rfl, rfl, by decide +kernel, rfl, by decide +kernel, by decide +kernel⟩
abbrev s__law_right : Stmt := (topS 14)
theorem sc__law_right : FnScope ["dice", "value"] ["dice"] (defScope s__law_right) := ⟨rfl, rfl, rfl, by decide +kernel, rfl, by decide +kernel, by decide +kernel⟩
abbrev s_law : Stmt := (topS 15)
theorem sc_law : FnScope ["script", "at", "dice", "turn", "words", "told", "one", "size"] ["script"] (defScope s_law) := ⟨rfl, rfl, rfl, by decide +kernel, rfl, by decide +kernel, by decide +kernel⟩
structure Txt (K : PySem.W.Frag) (mg : Str → Option Value) where
  a_is_name : Addr
  d_is_name : FuncData
  F_is_name : Fun K "is_name" "is_name" s_is_name a_is_name d_is_name
  m_is_name : mg "is_name" = some (.ref a_is_name)
  b_is_name : Binds K d_is_name ["value"] []
  a_is_answer : Addr
  d_is_answer : FuncData
  F_is_answer : Fun K "is_answer" "is_answer" s_is_answer a_is_answer d_is_answer
  m_is_answer : mg "is_answer" = some (.ref a_is_answer)
  b_is_answer : Binds K d_is_answer ["value"] []
  a__law_dice : Addr
  d__law_dice : FuncData
  F__law_dice : Fun K "_law_dice" "_law_dice" s__law_dice a__law_dice d__law_dice
  m__law_dice : mg "_law_dice" = some (.ref a__law_dice)
  b__law_dice : Binds K d__law_dice ["script", "at"] []
  a__law_roll : Addr
  d__law_roll : FuncData
  F__law_roll : Fun K "_law_roll" "_law_roll" s__law_roll a__law_roll d__law_roll
  m__law_roll : mg "_law_roll" = some (.ref a__law_roll)
  b__law_roll : Binds K d__law_roll ["dice", "total"] []
  a__law_one_of : Addr
  d__law_one_of : FuncData
  F__law_one_of : Fun K "_law_one_of" "_law_one_of" s__law_one_of a__law_one_of d__law_one_of
  m__law_one_of : mg "_law_one_of" = some (.ref a__law_one_of)
  b__law_one_of : Binds K d__law_one_of ["dice", "items"] []
  a__law_odd : Addr
  d__law_odd : FuncData
  F__law_odd : Fun K "_law_odd" "_law_odd" s__law_odd a__law_odd d__law_odd
  m__law_odd : mg "_law_odd" = some (.ref a__law_odd)
  b__law_odd : Binds K d__law_odd ["dice"] []
  a__law_is_name : Addr
  d__law_is_name : FuncData
  F__law_is_name : Fun K "_law_is_name" "_law_is_name" s__law_is_name a__law_is_name d__law_is_name
  m__law_is_name : mg "_law_is_name" = some (.ref a__law_is_name)
  b__law_is_name : Binds K d__law_is_name ["value"] []
  a__law_is_answer : Addr
  d__law_is_answer : FuncData
  F__law_is_answer : Fun K "_law_is_answer" "_law_is_answer" s__law_is_answer a__law_is_answer d__law_is_answer
  m__law_is_answer : mg "_law_is_answer" = some (.ref a__law_is_answer)
  b__law_is_answer : Binds K d__law_is_answer ["value"] []
  a__law_signs : Addr
  d__law_signs : FuncData
  F__law_signs : Fun K "_law_signs" "_law_signs" s__law_signs a__law_signs d__law_signs
  m__law_signs : mg "_law_signs" = some (.ref a__law_signs)
  b__law_signs : Binds K d__law_signs [] []
  a__law_word : Addr
  d__law_word : FuncData
  F__law_word : Fun K "_law_word" "_law_word" s__law_word a__law_word d__law_word
  m__law_word : mg "_law_word" = some (.ref a__law_word)
  b__law_word : Binds K d__law_word ["dice"] []
  a__law_right : Addr
  d__law_right : FuncData
  F__law_right : Fun K "_law_right" "_law_right" s__law_right a__law_right d__law_right
  m__law_right : mg "_law_right" = some (.ref a__law_right)
  b__law_right : Binds K d__law_right ["dice"] []
  a_law : Addr
  d_law : FuncData
  F_law : Fun K "law" "law" s_law a_law d_law
  m_law : mg "law" = some (.ref a_law)
  b_law : Binds K d_law ["script"] []
  z_abs : mg "abs" = none
  z_int : mg "int" = none
  z_isinstance : mg "isinstance" = none
  z_len : mg "len" = none
  z_list : mg "list" = none
  z_max : mg "max" = none
  z_min : mg "min" = none
  z_range : mg "range" = none
  z_repr : mg "repr" = none
  z_str : mg "str" = none
  t_MAX_LETTERS : Tok
  m_MAX_LETTERS : mg "MAX_LETTERS" = some (.int 8 t_MAX_LETTERS)
  a_RESERVED : Addr
  m_RESERVED : mg "RESERVED" = some (.ref a_RESERVED)
  q_RESERVED : ∀ H, SqT K H a_RESERVED [.str "failed", .str "kept", .str "skipped", .str "undone"]
theorem Txt.r_MAX_LETTERS {K : PySem.W.Frag} {mg : Str → Option Value} (T : Txt K mg) : RelV (.int 8) (.int 8 T.t_MAX_LETTERS) := ⟨_, rfl⟩
theorem Txt.r_RESERVED {K : PySem.W.Frag} {mg : Str → Option Value} (T : Txt K mg) : RelV (.ref T.a_RESERVED) (.ref T.a_RESERVED) := rfl
section
variable {P : Program} {w : World} {K : PySem.W.Frag} {mg : Str → Option Value} {base : Heap}
def sp__law_dice (K : PySem.W.Frag) : Sp := fun vs H Q _ => ∃ (a : Addr) (ns : List Int) (i : Int), vs = [.ref a, .int i] ∧ SqL K H a (ns.map V.int) ∧ 0 ≤ i ∧
  ∀ p H', H p = none → Same H H' → DiceAt H' p → Q (.ref p) H'
theorem map_int_at {ns : List Int} {x : V} (h : x ∈ ns.map V.int) : ∃ z, x = .int z := by
  obtain ⟨z, _, e⟩ := List.mem_map.mp h
  exact ⟨z, e.symm⟩
theorem ok__law_dice (T : Txt K mg) : FnG P w K mg base CX0 1 T.a__law_dice T.d__law_dice ["script", "at"] (sp__law_dice K) := by
  refine okG T.F__law_dice sc__law_dice (fun vs H Q E h => ?_) (fun cdv A fs s H vs Q E hr h => ?_)
  · obtain ⟨a, ns, i, rfl, _⟩ := h
    rfl
  obtain ⟨a, ns, i, rfl, hS, h0, k⟩ := h
  have nd := sc__law_dice.nd
  refine ⟨_, ((pss_cons (ps_set (i := 2) nd rfl (Or.inl rfl) (pe_op op_add (pe_op op_mul pe_int (pv 1)) pe_int))
  (pss_cons (ps_if (pt_cmpR op_lt (pv 1) (pe_callB c_len (by rfl) T.z_len (by decide +kernel) (pa_cons (pv 0) pa_nil)) (nomark _)) (pss_one (ps_set (i := 2) nd rfl (Or.inl rfl) (pe_ix ix_list (pv 0) (pv 1) (fun _ _ => rfl)))) pss_nil)
  (pss_cons (ps_set (i := 3) nd rfl (Or.inl rfl) (pe_op op_mod (pe_callTy c_int (by rfl) T.z_int (by decide +kernel) (pa_cons (pe_callB c_abs (by rfl) T.z_abs (by decide +kernel) (pa_cons (pv 2) pa_nil)) pa_nil)) (pe_op op_powW (pe_op op_powW pe_int pe_int) pe_int)))
  (pss_cons (ps_set (i := 4) nd rfl (Or.inl rfl) (pe_op op_add (pe_op op_add (pe_op op_add (pe_op op_mul (pe_op op_mod (pe_callTy c_int (by rfl) T.z_int (by decide +kernel) (pa_cons (pv 3) pa_nil)) pe_int) pe_int) (pe_op op_mul pe_int (pv 1))) (pe_op op_mul pe_int (pe_callTy c_int (by rfl) T.z_int (by decide +kernel) (pa_cons (pe_cmpR op_lt (pv 2) pe_int (nomark _)) pa_nil)))) pe_int))
  (pss_one (ps_ret (pe_lst (pa_cons (pe_callB (c_max2 rfl) (by rfl) T.z_max (by decide +kernel) (pa_cons pe_int (pa_cons (pe_op op_sub (pv 3) (pe_op op_powW pe_int pe_int)) pa_nil))) (pa_cons (pe_op op_mod (pe_callTy c_int (by rfl) T.z_int (by decide +kernel) (pa_cons (pv 4) pa_nil)) pe_int) (pa_cons pe_int pa_nil))))))))))), ?_⟩
  walk_at "s"
  refine i_dec (fun c => ?_) (fun c => ?_)
  · obtain ⟨x, hx, _, hi⟩ := at_in (xs := ns.map V.int) h0 c
    obtain ⟨z, rfl⟩ := map_int_at hx
    walk_at "s"
    refine l_ixL hS hi ?_
    walk_at "s"
    refine ⟨by show 3 ≤ sizeLine; decide, fun p np => ?_⟩
    exact k p _ np (Same.upd0 np) ⟨_, _, _, upd_same⟩
  · walk_at "s"
    refine ⟨by show 3 ≤ sizeLine; decide, fun p np => ?_⟩
    exact k p _ np (Same.upd0 np) ⟨_, _, _, upd_same⟩

def sp__law_roll : Sp := fun vs H Q _ => ∃ (d : Addr) (t : Int), vs = [.ref d, .int t] ∧ DiceAt H d ∧ 0 < t ∧ t < 1000000000000000001 ∧ ∀ r H', 0 ≤ r → r < t → Dc d H H' → Q (.int r) H'
theorem dice_set {d : Addr} {H : Hp} {a b c : Int} (h : H d = some (.lst [.int a, .int b, .int c])) (x y z : Int) : Dc d H (upd H d (.lst [.int x, .int y, .int z])) :=
  ⟨(Keep.refl H).set, x, y, z, upd_same⟩
theorem l_set3 {d : Addr} {H : Hp} {xs ys : List V} {x : V} {i : Int} {j : Nat} {Q : Hp → Prop} (h : H d = some (.lst xs)) (hj : ixN xs.length i = some j) (e : xs.set j x = ys) (q : Q (upd H d (.lst ys))) :
    rSetL (.ref d) (.int i) x H Q := by
  subst e
  exact ⟨d, xs, i, j, rfl, rfl, h, hj, q⟩
theorem ok__law_roll (T : Txt K mg) : FnG P w K mg base CX0 1 T.a__law_roll T.d__law_roll ["dice", "total"] sp__law_roll := by
  refine okG T.F__law_roll sc__law_roll (fun vs H Q E h => ?_) (fun cdv A fs s H vs Q E hr h => ?_)
  · obtain ⟨d, t, rfl, _⟩ := h
    rfl
  obtain ⟨d, t, rfl, ⟨x, y, z, hd⟩, t0, t1, k⟩ := h
  have nd := sc__law_roll.nd
  have dv : CDivW (x : Int) t := ⟨t0, by omega⟩
  have i0 : atI ([.int x, .int y, .int z] : List V) 0 = some (.int x) := rfl
  have i1 : atI ([.int x, .int y, .int z] : List V) 1 = some (.int y) := rfl
  have i2 : atI ([.int x, .int y, .int z] : List V) 2 = some (.int z) := rfl
  refine ⟨_, ((pss_cons (ps_if (pt_cmpR op_gt (pe_ix ix_list (pv 0) pe_int (fun _ _ => rfl)) pe_int (nomark _)) (pss_cons (ps_set (i := 2) nd rfl (Or.inl rfl) (pe_op op_mod (pe_callTy c_int (by rfl) T.z_int (by decide +kernel) (pa_cons (pe_ix ix_list (pv 0) pe_int (fun _ _ => rfl)) pa_nil)) (pv 1)))
  (pss_cons (ps_asg (pe_op op_fdivW (pe_ix ix_list (pv 0) pe_int (fun _ _ => rfl)) (pv 1)) (pg_sub (pv 0) pe_int set_list))
  (pss_one (ps_ret (pv 2))))) pss_nil)
  (pss_cons (ps_asg (pe_op op_add (pe_ix ix_list (pv 0) pe_int (fun _ _ => rfl)) pe_int) (pg_sub (pv 0) pe_int set_list))
  (pss_cons (ps_set (i := 3) nd rfl (Or.inl rfl) (pe_op op_mod (pe_callTy c_int (by rfl) T.z_int (by decide +kernel) (pa_cons (pe_op op_add (pe_ix ix_list (pv 0) pe_int (fun _ _ => rfl)) (pe_op op_mul pe_int (pe_ix ix_list (pv 0) pe_int (fun _ _ => rfl)))) pa_nil)) pe_int))
  (pss_cons (ps_set (i := 4) nd rfl (Or.inl rfl) (pe_op op_add (pe_op op_mul (pe_op op_mod (pe_callTy c_int (by rfl) T.z_int (by decide +kernel) (pa_cons (pe_op op_mul (pv 3) (pv 3)) pa_nil)) pe_int) (pv 3)) (pe_op op_mul pe_int (pe_ix ix_list (pv 0) pe_int (fun _ _ => rfl)))))
  (pss_cons (ps_set (i := 4) nd rfl (Or.inl rfl) (pe_op op_mod (pe_callTy c_int (by rfl) T.z_int (by decide +kernel) (pa_cons (pv 4) pa_nil)) pe_int))
  (pss_one (ps_ret (pe_op op_mod (pe_callTy c_int (by rfl) T.z_int (by decide +kernel) (pa_cons (pe_op op_fdivW (pv 4) pe_int) pa_nil)) (pv 1)))))))))), ?_⟩
  walk_at "s"
  refine l_ixL (SqL.of hd) i0 ?_
  walk_at "s"
  refine i_dec (fun c => ?_) (fun c => ?_)
  · walk_at "s"
    refine l_ixL (SqL.of hd) i0 ?_
    walk_at "s"
    refine l_ixL (SqL.of hd) i0 ?_
    walk_at "s"
    refine l_set3 hd (j := 0) rfl rfl ?_
    walk_at "s"
    exact k _ _ (Int.emod_nonneg _ (by omega)) (Int.emod_lt_of_pos _ t0) (dice_set hd _ _ _)
  · walk_at "s"
    refine l_ixL (SqL.of hd) i2 ?_
    walk_at "s"
    refine l_set3 hd (j := 2) rfl rfl ?_
    have hd' : (upd H d (.lst [.int x, .int y, .int (z + 1)])) d = some (.lst [.int x, .int y, .int (z + 1)]) := upd_same
    have j1 : atI ([.int x, .int y, .int (z + 1)] : List V) 1 = some (.int y) := rfl
    have j2 : atI ([.int x, .int y, .int (z + 1)] : List V) 2 = some (.int (z + 1)) := rfl
    walk_at "s"
    refine l_ixL (SqL.of hd') j1 ?_
    walk_at "s"
    refine l_ixL (SqL.of hd') j2 ?_
    walk_at "s"
    refine l_ixL (SqL.of hd') j2 ?_
    walk_at "s"
    exact k _ _ (Int.emod_nonneg _ (by omega)) (Int.emod_lt_of_pos _ t0) (dice_set hd _ _ _)
end
section
variable {P : Program} {w : World} {K : PySem.W.Frag} {mg : Str → Option Value} {base : Heap}
def sp__law_one_of (K : PySem.W.Frag) : Sp := fun vs H Q _ => ∃ (d l : Addr) (xs : List V), vs = [.ref d, .ref l] ∧ DiceAt H d ∧ SqL K H l xs ∧ l ≠ d ∧ 0 < xs.length ∧ xs.length < 1000000 ∧
  ∀ x H', x ∈ xs → Dc d H H' → Q x H'
theorem ok__law_one_of (T : Txt K mg) : FnG P w K mg base CX0 2 T.a__law_one_of T.d__law_one_of ["dice", "items"] (sp__law_one_of K) := by
  have G__law_roll : FnG P w K mg base CX0 1 T.a__law_roll T.d__law_roll ["dice", "total"] sp__law_roll := ok__law_roll T
  refine okG T.F__law_one_of sc__law_one_of (fun vs H Q E h => ?_) (fun cdv A fs s H vs Q E hr h => ?_)
  · obtain ⟨d, l, xs, rfl, _⟩ := h
    rfl
  obtain ⟨d, l, xs, rfl, hd, hl, ne, n0, n1, k⟩ := h
  have nd := sc__law_one_of.nd
  refine ⟨_, ((pss_one (ps_ret (pe_ix ix_list (pv 1) (pe_callG G__law_roll (hr.down (by decide)) rfl T.m__law_roll T.F__law_roll.kp T.b__law_roll .nil pass0 (pa_cons (pv 0) (pa_cons (pe_callB c_len (by rfl) T.z_len (by decide +kernel) (pa_cons (pv 1) pa_nil)) pa_nil))) (fun _ _ => rfl))))), ?_⟩
  walk_at "s"
  refine ⟨d, _, rfl, hd, by omega, by omega, fun r H' h0 h1 dc => ?_⟩
  obtain ⟨x, hx, _, hi⟩ := at_in (xs := xs) h0 h1
  exact l_ixL (sql_keep dc.keep ne hl) hi (k x H' hx dc)
end
section
variable {P : Program} {w : World} {K : PySem.W.Frag} {mg : Str → Option Value} {base : Heap}
def sp__law_odd : Sp := fun vs H Q _ => ∃ d : Addr, vs = [.ref d] ∧ DiceAt H d ∧ ∀ x H', Dc d H H' → OddV x H' → Q x H'
/-- a row of such values, made one after another, none of them of H0's objects -/
abbrev Pr1 (H0 : Hp) : Hp → V → Prop := fun H x => OddV x H ∧ ∀ a, x = .ref a → H0 a = none
section
variable {H0 : Hp} {σ : L2.St} {i j : Int} {s : Str} {b : Bool} {n : Nat} {tar : TA}
theorem mono1 (G G' : Hp) (v : V) (s : Same G G') (h : Pr1 H0 G v) : Pr1 H0 G' v := ⟨OddV.same s h.1, h.2⟩
theorem odd_str {G : Hp} (h : Txt1 s) : Pr1 H0 G (.str s) := ⟨Or.inl ⟨s, rfl, h⟩, fun _ z => nomatch z⟩
theorem odd_int {G : Hp} : Pr1 H0 G (.int i) := ⟨Or.inr (Or.inr (Or.inr (Or.inl ⟨i, rfl⟩))), fun _ z => nomatch z⟩
theorem odd_at {p : Addr} {G G' : Hp} (h : ListAt G' p) (s : Same H0 G) (n : G p = none) : Pr1 H0 G' (.ref p) := ⟨Or.inr (Or.inr (Or.inr (Or.inr ⟨p, rfl, h⟩))), fun a z => by
  cases z
  exact s.free n⟩
theorem to_str (h : Txt1 s) : ToP H0 (Pr1 H0) (tC (.str s)) σ := toP_c fun G => odd_str h
theorem to_int : ToP H0 (Pr1 H0) (tC (.int i)) σ := toP_c fun G => odd_int
theorem to_bl : ToP H0 (Pr1 H0) (tC (.bl b)) σ := toP_c fun G => ⟨Or.inr (Or.inr (Or.inl ⟨b, rfl⟩)), fun _ z => nomatch z⟩
theorem to_non : ToP H0 (Pr1 H0) (tC .non) σ := toP_c fun G => ⟨Or.inr (Or.inl rfl), fun _ z => nomatch z⟩
theorem to_neg : ToP H0 (Pr1 H0) (tUn (rU fun i => .int (-i)) (tC (.int i))) σ := fun H _ Q k => ⟨i, rfl, k _ H (Same.refl H) odd_int⟩
theorem to_pow (h : CPowW i j) : ToP H0 (Pr1 H0) (tOp (rI CPowW fun i j => .int (i ^ j.toNat)) (tC (.int i)) (tC (.int j))) σ := fun H _ Q k => ⟨i, j, rfl, rfl, h, k _ H (Same.refl H) odd_int⟩
theorem to_tup (a : AllA H0 (Pr1 H0) n tar σ) (hn : n ≤ 1000) : ToP H0 (Pr1 H0) (tTup tar) σ := fun H s0 Q k => a H s0 _ fun vs G s len _ =>
  l_newT (by rw [len, sizeLine_eq]; omega) fun p G' np s' e => k _ G' (s.trans s') (odd_at (Or.inr (Or.inl ⟨vs, e⟩)) (s0.trans s) np)
theorem to_lst (a : AllA H0 (Pr1 H0) n tar σ) (hn : n ≤ 1000) : ToP H0 (Pr1 H0) (tLst tar) σ := fun H s0 Q k => a H s0 _ fun vs G s len _ =>
  l_newL (by rw [len, sizeLine_eq]; omega) fun p G' np s' e => k _ G' (s.trans s') (odd_at (Or.inl ⟨vs, e⟩) (s0.trans s) np)
theorem to_dnew : ToP H0 (Pr1 H0) tDNewK σ := fun H s0 Q k p np => k _ _ (same0 np) (odd_at (Or.inr (Or.inr ⟨_, upd_same⟩)) s0 np)
theorem to_disp1 : ToP H0 (Pr1 H0) (tDisp [(tC (.str s), tC (.int i))]) σ := fun H s0 Q k p np =>
  ⟨upd_same, [(Sum.inr s, .int i)], rfl, (by show 1 ≤ 15; decide), k _ _ (Same.setNew (Same.upd0 np) np) (odd_at (Or.inr (Or.inr ⟨_, upd_same⟩)) s0 np)⟩
end
instance {s : Str} : Decidable (Txt1 s) := inferInstanceAs (Decidable (s.length ≤ 400 ∧ ∀ c ∈ s.cps.toList, c < 128))
end
local macro_rules | `(tactic| walk_at "ta1") => `(tactic| first
  | (with_reducible exact to_int) | (with_reducible exact to_bl) | (with_reducible exact to_non) | ((with_reducible refine to_str ?h); (case h => decide +kernel))
  | (with_reducible exact to_neg) | ((with_reducible refine to_pow ?h); (case h => decide +kernel)) | (with_reducible exact to_dnew) | (with_reducible exact to_disp1)
  | ((with_reducible refine' to_tup ?h ?l); (case h => walk_at "ta"); (case l => decide)) | ((with_reducible refine' to_lst ?h ?l); (case h => walk_at "ta"); (case l => decide)))
local macro_rules | `(tactic| walk_at "ta") => `(tactic| first
  | (exact allA_nil)
  | ((refine' allA_cons mono1 ?h1 ?h2); (case h1 => walk_at "ta1"); (case h2 => walk_at "ta")))
section
variable {P : Program} {w : World} {K : PySem.W.Frag} {mg : Str → Option Value} {base : Heap}
theorem ok__law_odd (T : Txt K mg) : FnG P w K mg base CX0 3 T.a__law_odd T.d__law_odd ["dice"] sp__law_odd := by
  have G__law_one_of : FnG P w K mg base CX0 2 T.a__law_one_of T.d__law_one_of ["dice", "items"] (sp__law_one_of K) := ok__law_one_of T
  refine okG T.F__law_odd sc__law_odd (fun vs H Q E h => ?_) (fun cdv A fs s H vs Q E hr h => ?_)
  · obtain ⟨d, rfl, _⟩ := h
    rfl
  obtain ⟨d, rfl, hd, k⟩ := h
  have nd := sc__law_odd.nd
  refine ⟨_, ((pss_cons (ps_set (i := 1) nd rfl (Or.inl rfl) (pe_lst (pa_cons pe_non (pa_cons pe_bl (pa_cons pe_bl (pa_cons pe_int (pa_cons pe_int (pa_cons (pe_un un_neg pe_int) (pa_cons pe_int (pa_cons pe_int (pa_cons (pe_op op_powW pe_int pe_int) (pa_cons pe_str (pa_cons pe_str (pa_cons pe_str (pa_cons pe_str (pa_cons pe_str (pa_cons pe_str (pa_cons pe_str pa_nil))))))))))))))))))
  (pss_cons (ps_set (i := 1) nd rfl (Or.inl rfl) (pe_op op_cat (pv 1) (pe_lst (pa_cons pe_str (pa_cons pe_str (pa_cons pe_str (pa_cons pe_str (pa_cons pe_str (pa_cons (pe_tup pa_nil) (pa_cons (pe_lst pa_nil) (pa_cons pe_dnewK (pa_cons (pe_tup (pa_cons pe_str pa_nil)) (pa_cons (pe_lst (pa_cons pe_str pa_nil)) (pa_cons (pe_disp (pps_cons pe_str pe_int pps_nil) (by rfl) (by rfl) (fun z => by cases z) (by decide)) (pa_cons (pe_tup (pa_cons (pe_tup pa_nil) pa_nil)) (pa_cons (pe_tup (pa_cons pe_non pa_nil)) pa_nil))))))))))))))))
  (pss_cons (ps_set (i := 1) nd rfl (Or.inl rfl) (pe_op op_cat (pv 1) (pe_lst (pa_cons (pe_tup (pa_cons pe_str pa_nil)) (pa_cons (pe_tup (pa_cons pe_str pa_nil)) pa_nil)))))
  (pss_one (ps_ret (pe_callG G__law_one_of (hr.down (by decide)) rfl T.m__law_one_of T.F__law_one_of.kp T.b__law_one_of .nil pass0 (pa_cons (pv 0) (pa_cons (pv 1) pa_nil))))))))), ?_⟩
  iterate 3 walk_at "s1"
  refine use_all (n := 16) (Pr := Pr1 H) (Same.refl H) ?_ fun xs1 G1 s1 len1 all1 => l_newL (by rw [len1, sizeLine_eq]; decide) fun p1 H1 n1 t1 e1 => ?_
  · walk_at "ta"
  iterate 6 walk_at "s1"
  refine use_all (n := 13) (Pr := Pr1 H) (s1.trans t1) ?_ fun xs2 G2 s2 len2 all2 => l_newL (by rw [len2, sizeLine_eq]; decide) fun p2 H2 n2 t2 e2 => ?_
  · walk_at "ta"
  refine l_cat ((s2.trans t2) _ _ e1) e2 (by rw [len1, len2, sizeLine_eq]; decide) fun p3 H3 n3 t3 e3 => ?_
  iterate 6 walk_at "s1"
  refine use_all (n := 2) (Pr := Pr1 H) (((s1.trans t1).trans (s2.trans t2)).trans t3) ?_ fun xs4 G4 s4 len4 all4 => l_newL (by rw [len4, sizeLine_eq]; decide) fun p4 H4 n4 t4 e4 => ?_
  · walk_at "ta"
  refine l_cat ((s4.trans t4) _ _ e3) e4 (by rw [List.length_append, len1, len2, len4, sizeLine_eq]; decide) fun p5 H5 n5 t5 e5 => ?_
  walk_at "s"
  have s5 := ((((s1.trans t1).trans (s2.trans t2)).trans t3).trans (s4.trans t4)).trans t5
  have hd5 := hd.same s5
  have ne5 : p5 ≠ d := fun e => by
    obtain ⟨_, _, _, z⟩ := hd.same (((((s1.trans t1).trans (s2.trans t2)).trans t3).trans (s4.trans t4)))
    rw [e] at n5
    rw [n5] at z
    cases z
  refine ⟨d, p5, (xs1 ++ xs2) ++ xs4, rfl, hd5, SqL.of e5, ne5, ?_, ?_, fun x H' hx dc => k x H' ((Dc.refl hd).same s5 |>.trans dc) ?_⟩
  · rw [List.length_append, List.length_append, len1]
    omega
  · rw [List.length_append, List.length_append, len1, len2, len4]
    decide
  · have o5 : Pr1 H H5 x := by
      rcases List.mem_append.mp hx with h | h
      · rcases List.mem_append.mp h with h | h
        · exact mono1 _ _ _ (((t1.trans (s2.trans t2)).trans t3).trans ((s4.trans t4).trans t5)) (all1 x h)
        · exact mono1 _ _ _ ((t2.trans t3).trans ((s4.trans t4).trans t5)) (all2 x h)
      · exact mono1 _ _ _ (t4.trans t5) (all4 x h)
    refine o5.1.keep_ne hd5 dc.keep fun z => ?_
    have f := o5.2 d z
    obtain ⟨_, _, _, e⟩ := hd
    rw [f] at e
    cases e
end
/-! ### names, in plain terms -/
def small (c : Nat) : Bool := decide (97 ≤ c) && decide (c ≤ 122)
def nameB (s : Str) : Bool := decide (1 ≤ s.length) && decide (s.length ≤ 8) && s.cps.toList.all small
def reserved : List Str := ["failed", "kept", "skipped", "undone"]
def answerB (s : Str) : Bool := nameB s && !(reserved.contains s)
section
variable {P : Program} {w : World} {K : PySem.W.Frag} {mg : Str → Option Value} {base : Heap}
/-- told of a value: for a text f, for another value no -/
def sp_told (K : PySem.W.Frag) (f : Str → Bool) : Sp := fun vs H Q _ => ∃ x : V, vs = [x] ∧ ((∃ s, x = .str s ∧ Txt1 s ∧ ∀ H', Same H H' → Q (.bl (f s)) H') ∨ (NotStr K H x ∧ ∀ H', Same H H' → Q (.bl false) H'))
abbrev sp_is_name (K : PySem.W.Frag) : Sp := sp_told K nameB
theorem txt_len {s : Str} (h : Txt1 s) : s.length ≤ sizeLine := by
  have := h.1
  rw [sizeLine_eq]
  omega
theorem ok_is_name (T : Txt K mg) : FnG P w K mg base CX0 1 T.a_is_name T.d_is_name ["value"] (sp_is_name K) := by
  refine okG T.F_is_name sc_is_name (fun vs H Q E h => ?_) (fun cdv A fs s H vs Q E hr h => ?_)
  · obtain ⟨x, rfl, _⟩ := h
    rfl
  obtain ⟨x, rfl, k⟩ := h
  have nd := sc_is_name.nd
  refine ⟨_, ((pss_cons (ps_if (PW.pt (pw_or (pt_not (pt_val (pe_callB call_isi (by rfl) T.z_isinstance (by decide +kernel) (pa_cons (pv 0) (pa_cons (pe_tyV (n := "str") (by rfl) T.z_str (by decide +kernel)) pa_nil))))) (pw_or1 (pt_not (pt_chain op_le op_le pe_int (pe_callB c_len (by rfl) T.z_len (by decide +kernel) (pa_cons (pv 0) pa_nil)) (pe_glob rfl T.m_MAX_LETTERS T.r_MAX_LETTERS)))))) (pss_one (ps_ret pe_bl)) pss_nil)
  (pss_one (ps_ret (pe_and (pe_m0 PySem.F.slot_str_isascii PySem.F.type_str_isascii mt_isascii (pv 0)) (pe_and (pe_m0 PySem.F.slot_str_isalpha PySem.F.type_str_isalpha mt_isalpha (pv 0)) (pe_one (pe_m0 PySem.F.slot_str_islower PySem.F.type_str_islower mt_islower (pv 0))))))))), ?_⟩
  walk_at "s"
  rcases k with ⟨z, rfl, hz, k⟩ | ⟨hn, k⟩
  · refine l_isStr ?_
    have hl := txt_len hz
    have h4 := hz.1
    walk_at "s"
    refine i_f rfl ?_
    walk_at "s"
    refine i_dec (fun c1 => ?_) (fun c1 => ?_)
    · walk_at "s"
      refine i_b (fun c2 => ?_) (fun c2 => ?_)
      · have n8 : ¬ ((z.length : Int) ≤ 8) := by simpa using c2
        walk_at "s"
        have e : nameB z = false := by
          unfold nameB
          rw [decide_eq_false (show ¬ z.length ≤ 8 by omega), Bool.and_false, Bool.false_and]
        have q := k H (Same.refl H)
        rw [e] at q
        exact q
      · have n8 : ((z.length : Int) ≤ 8) := by simpa using c2
        have e : nameB z = z.cps.toList.all small := by
          unfold nameB
          rw [decide_eq_true (show 1 ≤ z.length by omega), decide_eq_true (show z.length ≤ 8 by omega), Bool.true_and, Bool.true_and]
        have e2 : (Txt.isalpha z && Txt.islower z) = z.cps.toList.all small := small_told hz.2 (by omega)
        have q := k H (Same.refl H)
        rw [e, ← e2] at q
        walk_at "s"
        refine l_told (f := Txt.isascii) rfl (l_bl (i_t (isascii_of hz.2) ?_))
        walk_at "s"
        refine l_told (f := Txt.isalpha) rfl (l_bl (i_b (fun a1 => ?_) (fun a1 => ?_)))
        · rw [a1, Bool.true_and] at q
          exact l_told (f := Txt.islower) rfl q
        · rw [a1, Bool.false_and] at q
          exact q
    · walk_at "s"
      refine i_t rfl ?_
      walk_at "s"
      have e : nameB z = false := by
        unfold nameB
        rw [decide_eq_false (show ¬ 1 ≤ z.length by omega), Bool.false_and, Bool.false_and]
      have q := k H (Same.refl H)
      rw [e] at q
      exact q
  · refine l_notStr hn ?_
    walk_at "s"
    refine i_t rfl ?_
    walk_at "s"
    exact k H (Same.refl H)
end
section
variable {P : Program} {w : World} {K : PySem.W.Frag} {mg : Str → Option Value} {base : Heap}
def answerB1 (s : Str) : Bool := nameB s && !(reserved.any fun y => y == s)
theorem in_reserved (s : Str) : inV (.str s) (reserved.map V.str) = reserved.any fun y => y == s := by
  unfold inV
  rw [List.any_map]
  rfl
theorem all_flat (l : List Str) : (l.map V.str).all flatV = true := by
  rw [List.all_map, List.all_eq_true]
  intro _ _
  rfl
theorem l_ninR {p : Addr} {s : Str} {H : Hp} {Q : VK} (h : SqT K H p (reserved.map V.str)) (q : Q (.bl (!(reserved.any fun y => y == s))) H) : rIn K true (.str s) (.ref p) H Q :=
  ⟨p, _, rfl, Or.inr h, rfl, all_flat _, by rw [if_pos rfl, in_reserved]; exact q⟩
theorem ok_is_answer (T : Txt K mg) : FnG P w K mg base CX0 2 T.a_is_answer T.d_is_answer ["value"] (sp_told K answerB1) := by
  have G_is_name : FnG P w K mg base CX0 1 T.a_is_name T.d_is_name ["value"] (sp_is_name K) := ok_is_name T
  refine okG T.F_is_answer sc_is_answer (fun vs H Q E h => ?_) (fun cdv A fs s H vs Q E hr h => ?_)
  · obtain ⟨x, rfl, _⟩ := h
    rfl
  obtain ⟨x, rfl, k⟩ := h
  have nd := sc_is_answer.nd
  refine ⟨_, ((pss_one (ps_ret (pe_and (pe_callG G_is_name (hr.down (by decide)) rfl T.m_is_name T.F_is_name.kp T.b_is_name .nil pass0 (pa_cons (pv 0) pa_nil)) (pe_one (pe_cmpR (show OpR _ _ (rIn K true) from op_notIn_seq) (pv 0) (pe_glob rfl T.m_RESERVED T.r_RESERVED) (by rfl))))))), ?_⟩
  walk_at "s"
  rcases k with ⟨z, rfl, hz, k⟩ | ⟨hn, k⟩
  · refine ⟨_, rfl, Or.inl ⟨z, rfl, hz, fun G sg => ?_⟩⟩
    refine l_bl (i_b (fun e => ?_) (fun e => ?_))
    · walk_at "s"
      refine l_ninR (T.q_RESERVED G) ?_
      have q := k G sg
      unfold answerB1 at q
      rw [e, Bool.true_and] at q
      exact q
    · have q := k G sg
      unfold answerB1 at q
      rw [e, Bool.false_and] at q
      exact q
  · exact ⟨_, rfl, Or.inr ⟨hn, fun G sg => l_bl (i_f rfl (k G sg))⟩⟩

/-! ### the law's own lines -/
def letters : Str := "abcdefghijklmnopqrstuvwxyz"
theorem in_letters {c : Nat} : decide (c ∈ letters.cps.toList) = small c := by
  have e : letters.cps.toList = (List.range 26).map (· + 97) := by decide +kernel
  rw [e]
  unfold small
  by_cases h : 97 ≤ c ∧ c ≤ 122
  · rw [decide_eq_true h.1, decide_eq_true h.2, decide_eq_true]
    · rfl
    · exact List.mem_map.mpr ⟨c - 97, List.mem_range.mpr (by omega), by omega⟩
  · have n : c ∉ (List.range 26).map (· + 97) := fun m => by
      obtain ⟨i, hi, e⟩ := List.mem_map.mp m
      have := List.mem_range.mp hi
      omega
    rw [decide_eq_false n]
    by_cases h1 : 97 ≤ c
    · rw [decide_eq_false (show ¬ c ≤ 122 by omega), Bool.and_false]
    · rw [decide_eq_false h1, Bool.false_and]
def badB : V → Bool := fun v => match v with
  | .str s => !(s.cps.toList.all small)
  | _ => false
theorem bad_sign {c : Nat} : badB (signV c) = !small c := by
  show (!(small c && true)) = _
  rw [Bool.and_true]
theorem bads (l : List Nat) : ((l.map signV).filter badB).map (fun v => v) = (l.filter fun c => !small c).map signV := by
  rw [List.map_id', List.filter_map]
  congr 1
  refine List.filter_congr fun c _ => ?_
  exact bad_sign
theorem dp_signs {H : Hp} : ∀ l : List Nat, DpAll K H (l.map signV) (l.map fun c => PyData.str ⟨#[c]⟩)
  | [] => .nil
  | c :: l => .cons (.str _) (dp_signs l)
theorem lay_signs : ∀ l : List Nat, (∀ c ∈ l, c < 128) → PyData.canLayAll0 (l.map fun c => PyData.str ⟨#[c]⟩) = true
  | [], _ => rfl
  | c :: l, h => by
    have h1 := h c List.mem_cons_self
    have h2 := lay_signs l fun x hx => h x (List.mem_cons_of_mem _ hx)
    rw [List.map_cons]
    simp only [PyData.canLayAll0, PyData.canLay0, h2, Bool.and_true]
    show (#[c] : Array Nat).all _ = true
    simp
    omega
theorem depth_signs : ∀ l : List Nat, PyData.depthAll (l.map fun c => PyData.str ⟨#[c]⟩) = 0
  | [] => rfl
  | c :: l => by
    rw [List.map_cons]
    simp only [PyData.depthAll, PyData.depth, depth_signs l]
    rfl
theorem shaped_signs (l : List Nat) (h : ∀ c ∈ l, c < 128) : SeqAt.shaped (.list (l.map fun c => PyData.str ⟨#[c]⟩)) = true := by
  unfold SeqAt.shaped
  simp only [PyData.canLay0, PyData.depth, depth_signs, lay_signs l h]
  rfl
theorem eqv_none (l : List Nat) : PyData.eqv (.list (l.map fun c => PyData.str ⟨#[c]⟩)) (.list []) = l.isEmpty := by
  cases l <;> simp [PyData.eqv, PyData.eqvAll]
theorem ok__law_is_name (T : Txt K mg) : FnG P w K mg base CX0 1 T.a__law_is_name T.d__law_is_name ["value"] (sp_told K nameB) := by
  refine okG T.F__law_is_name sc__law_is_name (fun vs H Q E h => ?_) (fun cdv A fs s H vs Q E hr h => ?_)
  · obtain ⟨x, rfl, _⟩ := h
    rfl
  obtain ⟨x, rfl, k⟩ := h
  have nd := sc__law_is_name.nd
  refine ⟨_, ((pss_cons (ps_if (PW.pt (pw_or (pt_not (pt_val (pe_callB call_isi (by rfl) T.z_isinstance (by decide +kernel) (pa_cons (pv 0) (pa_cons (pe_tyV (n := "str") (by rfl) T.z_str (by decide +kernel)) pa_nil))))) (pw_or1 (pt_not (pt_chain op_le op_le pe_int (pe_callB c_len (by rfl) T.z_len (by decide +kernel) (pa_cons (pv 0) pa_nil)) pe_int))))) (pss_one (ps_ret pe_bl)) pss_nil)
  (pss_one (ps_ret (pe_cmpR (op_eqD hr.r.units) (pe_lc (own := [("sign", 1)]) rfl nd (pi_str (pv 0)) (blkOk_by (own := [("sign", 1)]) (N := ["value", "sign"]) (sc := defScope s__law_is_name) (by decide +kernel)) (fun _ _ _ _ _ => pg_name (i := 1) nd rfl (Or.inl rfl)) (fun _ _ _ _ _ => by exact (pts_one (pt_cmpR o_ninS (pv 1) pe_str rfl))) (fun _ _ _ _ _ => by exact (pv 1))) (pe_lst pa_nil) (nomark _)))))), ?_⟩
  walk_at "s"
  rcases k with ⟨z, rfl, hz, k⟩ | ⟨hn, k⟩
  · refine l_isStr ?_
    have hl := txt_len hz
    have h4 := hz.1
    walk_at "s"
    refine i_f rfl ?_
    walk_at "s"
    refine i_dec (fun c1 => ?_) (fun c1 => ?_)
    · walk_at "s"
      refine i_b (fun c2 => ?_) (fun c2 => ?_)
      · have n8 : ¬ ((z.length : Int) ≤ 8) := by simpa using c2
        walk_at "s"
        have e : nameB z = false := by
          unfold nameB
          rw [decide_eq_false (show ¬ z.length ≤ 8 by omega), Bool.and_false, Bool.false_and]
        have q := k H (Same.refl H)
        rw [e] at q
        exact q
      · have n8 : ((z.length : Int) ≤ 8) := by simpa using c2
        walk_at "s"
        refine l_lcS badB (fun v => v) (by omega) (fun c _ G _ R r => ?_) (fun c _ _ G _ R r => ?_) (fun D G _ sg eg => ?_)
        · refine s_test (s_op (s_var rfl (s_c (l_ninS (l_bl ?_)))))
          have e : (!decide (c ∈ (Str.ofString "abcdefghijklmnopqrstuvwxyz").cps.toList)) = badB (signV c) := by
            rw [bad_sign]
            exact congrArg _ in_letters
          rw [e]
          exact r G (Same.refl G)
        · exact s_var rfl (r G (Same.refl G))
        · rw [bads] at eg
          walk_at "s"
          refine l_newL (by show 0 ≤ sizeLine; decide) fun p G2 np sp ep => ?_
          have lt : ∀ c ∈ z.cps.toList.filter (fun c => !small c), c < 128 := fun c hc => hz.2 c (List.mem_filter.mp hc).1
          refine l_eqD (.lst (SqL.of (sp _ _ eg)) (dp_signs _)) (.lst (SqL.of ep) .nil) (shaped_signs _ lt) (by rfl) ?_
          rw [eqv_none]
          have e : nameB z = (z.cps.toList.filter (fun c => !small c)).isEmpty := by
            unfold nameB
            rw [decide_eq_true (show 1 ≤ z.length by omega), decide_eq_true (show z.length ≤ 8 by omega), Bool.true_and, Bool.true_and]
            rw [Bool.eq_iff_iff, List.isEmpty_iff, List.filter_eq_nil_iff, List.all_eq_true]
            simp
          have q := k G2 (sg.trans sp)
          rw [e] at q
          exact q
    · walk_at "s"
      refine i_t rfl ?_
      walk_at "s"
      have e : nameB z = false := by
        unfold nameB
        rw [decide_eq_false (show ¬ 1 ≤ z.length by omega), Bool.false_and, Bool.false_and]
      have q := k H (Same.refl H)
      rw [e] at q
      exact q
  · refine l_notStr hn ?_
    walk_at "s"
    refine i_t rfl ?_
    walk_at "s"
    exact k H (Same.refl H)
theorem ok__law_is_answer (T : Txt K mg) : FnG P w K mg base CX0 2 T.a__law_is_answer T.d__law_is_answer ["value"] (sp_told K answerB1) := by
  have G__law_is_name : FnG P w K mg base CX0 1 T.a__law_is_name T.d__law_is_name ["value"] (sp_told K nameB) := ok__law_is_name T
  refine okG T.F__law_is_answer sc__law_is_answer (fun vs H Q E h => ?_) (fun cdv A fs s H vs Q E hr h => ?_)
  · obtain ⟨x, rfl, _⟩ := h
    rfl
  obtain ⟨x, rfl, k⟩ := h
  have nd := sc__law_is_answer.nd
  refine ⟨_, ((pss_one (ps_ret (pe_and (pe_callG G__law_is_name (hr.down (by decide)) rfl T.m__law_is_name T.F__law_is_name.kp T.b__law_is_name .nil pass0 (pa_cons (pv 0) pa_nil)) (pe_one (pe_cmpR (show OpR _ _ (rIn K true) from op_notIn_seq) (pv 0) (pe_tup (pa_consts (by rfl))) (by rfl))))))), ?_⟩
  walk_at "s"
  rcases k with ⟨z, rfl, hz, k⟩ | ⟨hn, k⟩
  · refine ⟨_, rfl, Or.inl ⟨z, rfl, hz, fun G sg => ?_⟩⟩
    refine l_bl (i_b (fun e => ?_) (fun e => ?_))
    · walk_at "s"
      refine l_newT (by show 4 ≤ sizeLine; decide) fun p G2 np sp ep => ?_
      refine l_ninR (SqT.of ep) ?_
      have q := k G2 (sg.trans sp)
      unfold answerB1 at q
      rw [e, Bool.true_and] at q
      exact q
    · have q := k G sg
      unfold answerB1 at q
      rw [e, Bool.false_and] at q
      exact q
  · exact ⟨_, rfl, Or.inr ⟨hn, fun G sg => l_bl (i_f rfl (k G sg))⟩⟩
end
section
variable {P : Program} {w : World} {K : PySem.W.Frag} {mg : Str → Option Value} {base : Heap}
/-- a row of signs: 95 plain ones -/
def SignsOk (z : Str) : Prop := z.length = 95 ∧ ∀ c ∈ z.cps.toList, c < 128
instance {z : Str} : Decidable (SignsOk z) := inferInstanceAs (Decidable (z.length = 95 ∧ ∀ c ∈ z.cps.toList, c < 128))
def sp__law_signs : Sp := fun vs H Q _ => vs = [] ∧ ∀ z, SignsOk z → Q (.str z) H
theorem ok__law_signs (T : Txt K mg) : FnG P w K mg base CX0 1 T.a__law_signs T.d__law_signs [] sp__law_signs := by
  refine okG T.F__law_signs sc__law_signs (fun vs H Q E h => ?_) (fun cdv A fs s H vs Q E hr h => ?_)
  · obtain ⟨rfl, _⟩ := h
    rfl
  obtain ⟨rfl, k⟩ := h
  have nd := sc__law_signs.nd
  refine ⟨_, ((pss_cons (ps_set (i := 0) nd rfl (Or.inl rfl) pe_str)
  (pss_one (ps_ret (pe_op o_addS (pe_op o_addS (pe_op o_addS (pe_op o_addS (pv 0) pe_str) pe_str) pe_str) pe_str))))), ?_⟩
  walk_at "s"
  exact k _ (by decide +kernel)

def sp__law_word : Sp := fun vs H Q _ => ∃ d : Addr, vs = [.ref d] ∧ DiceAt H d ∧ ∀ s H', Dc d H H' → Txt1 s → Q (.str s) H'
/-- a text of at most n plain signs -/
def TxtN (n : Nat) (s : Str) : Prop := s.length ≤ n ∧ ∀ c ∈ s.cps.toList, c < 128
instance {n : Nat} {s : Str} : Decidable (TxtN n s) := inferInstanceAs (Decidable (s.length ≤ n ∧ ∀ c ∈ s.cps.toList, c < 128))
theorem txt_app {n m : Nat} {y z : Str} (a : TxtN n y) (b : TxtN m z) : TxtN (n + m) (y ++ z) := by
  refine ⟨?_, fun c hc => ?_⟩
  · rw [append_len]
    have := a.1
    have := b.1
    omega
  · rcases append_mem hc with h | h
    · exact a.2 c h
    · exact b.2 c h
theorem txt_cut {n : Nat} {y : Str} {lo hi : Option Int} (a : TxtN n y) : TxtN n (cutS y lo hi) := ⟨Nat.le_trans cutS_len a.1, fun c hc => a.2 c (cutS_mem hc)⟩
theorem txt_sign {signs : Str} (signs_ok : SignsOk signs) {i : Int} {c : Nat} (e : atI signs.cps.toList i = some c) : TxtN 1 (⟨#[c]⟩ : Str) := by
  refine ⟨Nat.le_refl 1, fun x hx => ?_⟩
  have hx' : x = c := by simpa using hx
  subst hx'
  unfold atI at e
  obtain ⟨j, _, hj⟩ := Option.bind_eq_some_iff.mp e
  exact signs_ok.2 x (List.mem_of_getElem? hj)
theorem at_sign {signs : Str} (signs_ok : SignsOk signs) {i : Int} (h0 : 0 ≤ i) (h1 : i < 95) : ∃ c, atI signs.cps.toList i = some c := by
  have hl : i.toNat < signs.cps.toList.length := by
    have e : signs.cps.toList.length = 95 := by
      rw [Array.length_toList]
      exact signs_ok.1
    omega
  have e : atI signs.cps.toList ((i.toNat : Nat) : Int) = some (signs.cps.toList[i.toNat]) := atI_nat (List.getElem?_eq_getElem hl)
  rw [Int.toNat_of_nonneg h0] at e
  exact ⟨_, e⟩
theorem ok__law_word (T : Txt K mg) : FnG P w K mg base CX0 3 T.a__law_word T.d__law_word ["dice"] sp__law_word := by
  have G__law_roll : FnG P w K mg base CX0 1 T.a__law_roll T.d__law_roll ["dice", "total"] sp__law_roll := ok__law_roll T
  have G__law_signs : FnG P w K mg base CX0 1 T.a__law_signs T.d__law_signs [] sp__law_signs := ok__law_signs T
  have G__law_one_of : FnG P w K mg base CX0 2 T.a__law_one_of T.d__law_one_of ["dice", "items"] (sp__law_one_of K) := ok__law_one_of T
  have HP := @PassesOwn.never
  refine okG T.F__law_word sc__law_word (fun vs H Q E h => ?_) (fun cdv A fs s H vs Q E hr h => ?_)
  · obtain ⟨d, rfl, _⟩ := h
    rfl
  obtain ⟨d, rfl, hd, k⟩ := h
  have nd := sc__law_word.nd
  refine ⟨_, ((pss_cons (ps_par3 (i := 1) (j := 2) (l := 3) rfl nd rfl rfl rfl (by decide) (by decide) (by decide) rfl rfl rfl (pa_cons (pe_callG G__law_roll (hr.down (by decide)) rfl T.m__law_roll T.F__law_roll.kp T.b__law_roll .nil pass0 (pa_cons (pv 0) (pa_cons pe_int pa_nil))) (pa_cons pe_str (pa_cons (pe_callG0 G__law_signs (hr.down (by decide)) rfl T.m__law_signs T.F__law_signs.kp T.b__law_signs .nil pass0) pa_nil))) (by rfl))
  (pss_cons (ps_for HP rfl (pi_range1 rfl T.z_range (pa_cons (pe_callG G__law_roll (hr.down (by decide)) rfl T.m__law_roll T.F__law_roll.kp T.b__law_roll .nil pass0 (pa_cons (pv 0) (pa_cons pe_int pa_nil))) pa_nil)) (pg_name (i := 4) nd rfl (Or.inl rfl)) (pss_one (ps_set (i := 2) nd rfl (Or.inl rfl) (pe_op o_addS (pv 2) (pe_ix ix_str (pv 3) (pe_callG G__law_roll (hr.down (by decide)) rfl T.m__law_roll T.F__law_roll.kp T.b__law_roll .nil pass0 (pa_cons (pv 0) (pa_cons (pe_ifExp (pt_cmpR op_lt (pv 1) pe_int (nomark _)) pe_int (pe_callB c_len (by rfl) T.z_len (by decide +kernel) (pa_cons (pv 3) pa_nil))) pa_nil))) (fun _ _ => rfl))))))
  (Evl.pss_cut (ps_if (pt_cmpR op_eq (pv 1) pe_int (nomark _)) (pss_cons (ps_set (i := 5) nd rfl (Or.inl rfl) (pe_callG G__law_roll (hr.down (by decide)) rfl T.m__law_roll T.F__law_roll.kp T.b__law_roll .nil pass0 (pa_cons (pv 0) (pa_cons (pe_op op_add (pe_callB c_len (by rfl) T.z_len (by decide +kernel) (pa_cons (pv 2) pa_nil)) pe_int) pa_nil))))
  (pss_one (ps_set (i := 2) nd rfl (Or.inl rfl) (pe_op o_addS (pe_op o_addS (pe_slice sl_str (pv 2) po_none (po_some (pv 5))) (pe_ix ix_str (pv 3) (pe_callG G__law_roll (hr.down (by decide)) rfl T.m__law_roll T.F__law_roll.kp T.b__law_roll .nil pass0 (pa_cons (pv 0) (pa_cons (pe_callB c_len (by rfl) T.z_len (by decide +kernel) (pa_cons (pv 3) pa_nil)) pa_nil))) (fun _ _ => rfl))) (pe_slice sl_str (pv 2) (po_some (pe_op op_add (pv 5) pe_int)) po_none))))) pss_nil)
  (pss_cons (ps_if (pt_cmpR op_eq (pv 1) pe_int (nomark _)) (pss_cons (ps_set (i := 2) nd rfl (Or.inl rfl) (pe_callG G__law_one_of (hr.down (by decide)) rfl T.m__law_one_of T.F__law_one_of.kp T.b__law_one_of .nil pass0 (pa_cons (pv 0) (pa_cons (pe_lst (pa_consts (by rfl))) pa_nil))))
  (pss_cons (ps_set (i := 5) nd rfl (Or.inl rfl) (pe_callG G__law_roll (hr.down (by decide)) rfl T.m__law_roll T.F__law_roll.kp T.b__law_roll .nil pass0 (pa_cons (pv 0) (pa_cons (pe_op op_add (pe_callB c_len (by rfl) T.z_len (by decide +kernel) (pa_cons (pv 2) pa_nil)) pe_int) pa_nil))))
  (pss_one (ps_set (i := 2) nd rfl (Or.inl rfl) (pe_op o_addS (pe_op o_addS (pe_slice sl_str (pv 2) po_none (po_some (pv 5))) (pe_callG G__law_one_of (hr.down (by decide)) rfl T.m__law_one_of T.F__law_one_of.kp T.b__law_one_of .nil pass0 (pa_cons (pv 0) (pa_cons (pe_lst (pa_consts (by rfl))) pa_nil)))) (pe_slice sl_str (pv 2) (po_some (pe_op op_add (pv 5) (pe_callG G__law_roll (hr.down (by decide)) rfl T.m__law_roll T.F__law_roll.kp T.b__law_roll .nil pass0 (pa_cons (pv 0) (pa_cons pe_int pa_nil))))) po_none)))))) pss_nil)
  (pss_one (ps_ret (pv 2)))))))), ?_⟩
  walk_at "s"
  refine ⟨d, 4, rfl, hd, by decide, by decide, fun way H1 w0 w1 dc1 => ?_⟩
  walk_at "s"
  refine ⟨rfl, fun signs signs_ok => ?_⟩
  have sg : signs.length ≤ sizeLine := by rw [signs_ok.1, sizeLine_eq]; decide
  have dc2 := dc1
  walk_at "s"
  refine ⟨d, 11, rfl, dc2.dice, by decide, by decide, fun n H3 n0 n1 dc3 => ?_⟩
  have dc3' := dc2.trans dc3
  refine l_forR (by omega) (by omega) (fun i σ G => ∃ (z : Str) (t : Option V), σ = [some (.ref d), some (.int way), some (.str z), some (.str signs), t, none] ∧ TxtN i z ∧ Dc d H G) ⟨_, _, rfl, ⟨Nat.le_refl 0, fun c hc => nomatch hc⟩, dc3'⟩ ?_ ?_
  · rintro i σ G hi ⟨z, t, rfl, hz, dc⟩
    have hz1 := hz.1
    have hz2 : z.length + 1 ≤ sizeLine := by rw [sizeLine_eq]; omega
    walk_at "s"
    refine i_dec (fun c => ?_) (fun c => ?_)
    · walk_at "s"
      refine ⟨d, 26, rfl, dc.dice, by decide, by decide, fun r G1 r0 r1 dc1 => ?_⟩
      obtain ⟨c, hc⟩ := at_sign signs_ok r0 (by omega)
      refine l_ixS sg hc ?_
      refine l_addS hz2 ?_
      walk_at "s"
      exact ⟨_, _, rfl, txt_app hz (txt_sign signs_ok hc), dc.trans dc1⟩
    · walk_at "s"
      refine ⟨d, _, rfl, dc.dice, by rw [signs_ok.1]; decide, by rw [signs_ok.1]; decide, fun r G1 r0 r1 dc1 => ?_⟩
      rw [signs_ok.1] at r1
      obtain ⟨c, hc⟩ := at_sign signs_ok r0 (by omega)
      refine l_ixS sg hc ?_
      refine l_addS hz2 ?_
      walk_at "s"
      exact ⟨_, _, rfl, txt_app hz (txt_sign signs_ok hc), dc.trans dc1⟩
  · rintro σ G ⟨z, t, rfl, hz, dc⟩
    have hz : TxtN 11 z := ⟨by have := hz.1; omega, hz.2⟩
    have hz1 := hz.1
    have hz2 : z.length ≤ sizeLine := by rw [sizeLine_eq]; omega
    refine s_cut (fun τ J => ∃ (y : Str) (t u : Option V), τ = [some (.ref d), some (.int way), some (.str y), some (.str signs), t, u] ∧ TxtN 30 y ∧ Dc d H J) ?_ ?_
    · walk_at "s"
      refine i_dec (fun c => ?_) (fun c => ?_)
      · walk_at "s"
        refine ⟨d, _, rfl, dc.dice, by omega, by omega, fun r G1 r0 r1 dc1 => ?_⟩
        walk_at "s"
        refine ⟨d, _, rfl, dc1.dice, by rw [signs_ok.1]; decide, by rw [signs_ok.1]; decide, fun r' G2 q0 q1 dc2 => ?_⟩
        rw [signs_ok.1] at q1
        obtain ⟨c, hc⟩ := at_sign signs_ok q0 (by omega)
        refine l_ixS sg hc ?_
        have b1 : TxtN 12 (cutS z none (some r) ++ (⟨#[c]⟩ : Str)) := txt_app (txt_cut hz) (txt_sign signs_ok hc)
        have b2 : TxtN 11 (cutS z (some (r + 1)) none) := txt_cut hz
        refine l_addS (by have := cutS_len (z := z) (lo := none) (hi := some r); rw [sizeLine_eq]; show _ + 1 ≤ _; omega) ?_
        have hz3 : (cutS z none (some r) ++ (⟨#[c]⟩ : Str)).length + (cutS z (some (r + 1)) none).length ≤ sizeLine := by
          have l1 := b1.1
          have l2 := b2.1
          rw [sizeLine_eq]
          omega
        walk_at "s"
        have b3 := txt_app b1 b2
        exact ⟨_, _, _, rfl, ⟨by have := b3.1; omega, b3.2⟩, (dc.trans dc1).trans dc2⟩
      · walk_at "s"
        exact ⟨z, _, _, rfl, ⟨by omega, hz.2⟩, dc⟩
    · rintro τ J ⟨y, t, u, rfl, hy, dcj⟩
      have hy1 := hy.1
      walk_at "s"
      refine i_dec (fun c => ?_) (fun c => ?_)
      · walk_at "s"
        refine l_newL (by show 4 ≤ sizeLine; decide) fun p G0 np sp ep => ?_
        have dc0 := dcj.same sp
        have ne : p ≠ d := fun e => by
          obtain ⟨_, _, _, z⟩ := dcj.dice
          rw [e, z] at np
          cases np
        refine ⟨d, p, _, rfl, dc0.dice, SqL.of ep, ne, by show 0 < 4; decide, by show 4 < 1000000; decide, fun x G1 hx dc1 => ?_⟩
        obtain ⟨z, rfl, hz⟩ : ∃ z, x = .str z ∧ TxtN 7 z := by
          have h : ∀ x ∈ ([.str "failed", .str "kept", .str "skipped", .str "undone"] : List V), ∃ z, x = .str z ∧ TxtN 7 z := by
            intro x hx
            simp only [List.mem_cons, List.not_mem_nil, or_false] at hx
            rcases hx with rfl | rfl | rfl | rfl
            · exact ⟨_, rfl, by decide +kernel⟩
            · exact ⟨_, rfl, by decide +kernel⟩
            · exact ⟨_, rfl, by decide +kernel⟩
            · exact ⟨_, rfl, by decide +kernel⟩
          exact h x hx
        have hz1 := hz.1
        have hz2 : z.length ≤ sizeLine := by rw [sizeLine_eq]; omega
        walk_at "s"
        refine ⟨d, _, rfl, dc1.dice, by omega, by omega, fun r G2 r0 r1 dc2 => ?_⟩
        walk_at "s"
        refine l_newL (by show 4 ≤ sizeLine; decide) fun p2 G3 np2 sp2 ep2 => ?_
        have dc3 := dc2.same sp2
        have ne2 : p2 ≠ d := fun e => by
          obtain ⟨_, _, _, z⟩ := dc2.dice
          rw [e, z] at np2
          cases np2
        refine ⟨d, p2, _, rfl, dc3.dice, SqL.of ep2, ne2, by show 0 < 4; decide, by show 4 < 1000000; decide, fun x2 G4 hx2 dc4 => ?_⟩
        obtain ⟨z2, rfl, hz2⟩ : ∃ z, x2 = .str z ∧ TxtN 1 z := by
          have h : ∀ x ∈ ([.str "", .str "s", .str "d", .str "K"] : List V), ∃ z, x = .str z ∧ TxtN 1 z := by
            intro x hx
            simp only [List.mem_cons, List.not_mem_nil, or_false] at hx
            rcases hx with rfl | rfl | rfl | rfl
            · exact ⟨_, rfl, by decide +kernel⟩
            · exact ⟨_, rfl, by decide +kernel⟩
            · exact ⟨_, rfl, by decide +kernel⟩
            · exact ⟨_, rfl, by decide +kernel⟩
          exact h x2 hx2
        have b1 : TxtN 8 (cutS z none (some r) ++ z2) := txt_app (txt_cut hz) hz2
        refine l_addS (by have := cutS_len (z := z) (lo := none) (hi := some r); have := hz2.1; rw [sizeLine_eq]; omega) ?_
        walk_at "s"
        refine ⟨d, 2, rfl, dc4.dice, by decide, by decide, fun r2 G5 q0 q1 dc5 => ?_⟩
        have b2 : TxtN 7 (cutS z (some (r + r2)) none) := txt_cut hz
        have hz3 : (cutS z none (some r) ++ z2).length + (cutS z (some (r + r2)) none).length ≤ sizeLine := by
          have l1 := b1.1
          have l2 := b2.1
          rw [sizeLine_eq]
          omega
        walk_at "s"
        have b3 := txt_app b1 b2
        exact k _ G5 (((((dcj.same sp).trans dc1).trans dc2).same sp2).trans dc4 |>.trans dc5) ⟨by have := b3.1; omega, b3.2⟩
      · walk_at "s"
        exact k y J dcj ⟨by omega, hy.2⟩
end
section
variable {P : Program} {w : World} {K : PySem.W.Frag} {mg : Str → Option Value} {base : Heap}
def sp__law_right : Sp := fun vs H Q _ => ∃ d : Addr, vs = [.ref d] ∧ DiceAt H d ∧ ∀ H', Dc d H H' → Q (.bl true) H'
theorem told_of {x : V} {G : Hp} (h : OddV x G) : ∃ b1 b2 : Bool, (∀ J Q E, Same G J → (∀ H', Same J H' → Q (.bl b1) H') → sp_told K nameB [x] J Q E) ∧ (∀ J Q E, Same G J → (∀ H', Same J H' → Q (.bl b2) H') → sp_told K answerB1 [x] J Q E) := by
  by_cases e : ∃ s, x = .str s ∧ Txt1 s
  · obtain ⟨s, rfl, hs⟩ := e
    exact ⟨_, _, fun J Q E _ q => ⟨_, rfl, Or.inl ⟨s, rfl, hs, q⟩⟩, fun J Q E _ q => ⟨_, rfl, Or.inl ⟨s, rfl, hs, q⟩⟩⟩
  · refine ⟨false, false, fun J Q E sj q => ?_, fun J Q E sj q => ?_⟩
    · exact ⟨_, rfl, Or.inr ⟨((h.same sj).cases (K := K)).resolve_left e, q⟩⟩
    · exact ⟨_, rfl, Or.inr ⟨((h.same sj).cases (K := K)).resolve_left e, q⟩⟩
theorem shown2 (b1 b2 : Bool) : (PyData.list [.bool b1, .bool b2]).shown.length ≤ sizeLine := by
  rw [sizeLine_eq]
  cases b1 <;> cases b2 <;> decide +kernel
theorem ok__law_right (T : Txt K mg) : FnG P w K mg base CX0 4 T.a__law_right T.d__law_right ["dice"] sp__law_right := by
  have G__law_word : FnG P w K mg base CX0 3 T.a__law_word T.d__law_word ["dice"] sp__law_word := ok__law_word T
  have G__law_odd : FnG P w K mg base CX0 3 T.a__law_odd T.d__law_odd ["dice"] sp__law_odd := ok__law_odd T
  have G__law_one_of : FnG P w K mg base CX0 2 T.a__law_one_of T.d__law_one_of ["dice", "items"] (sp__law_one_of K) := ok__law_one_of T
  have G_is_name : FnG P w K mg base CX0 1 T.a_is_name T.d_is_name ["value"] (sp_told K nameB) := ok_is_name T
  have G_is_answer : FnG P w K mg base CX0 2 T.a_is_answer T.d_is_answer ["value"] (sp_told K answerB1) := ok_is_answer T
  have G__law_is_name : FnG P w K mg base CX0 1 T.a__law_is_name T.d__law_is_name ["value"] (sp_told K nameB) := ok__law_is_name T
  have G__law_is_answer : FnG P w K mg base CX0 2 T.a__law_is_answer T.d__law_is_answer ["value"] (sp_told K answerB1) := ok__law_is_answer T
  have HP := @PassesOwn.never
  refine okG T.F__law_right sc__law_right (fun vs H Q E h => ?_) (fun cdv A fs s H vs Q E hr h => ?_)
  · obtain ⟨d, rfl, _⟩ := h
    rfl
  obtain ⟨d, rfl, hd, k⟩ := h
  have nd := sc__law_right.nd
  refine ⟨_, ((pss_cons (ps_for HP rfl (pi_tup (pe_tup (pa_cons (pe_callG G__law_word (hr.down (by decide)) rfl T.m__law_word T.F__law_word.kp T.b__law_word .nil pass0 (pa_cons (pv 0) pa_nil)) (pa_cons (pe_callG G__law_word (hr.down (by decide)) rfl T.m__law_word T.F__law_word.kp T.b__law_word .nil pass0 (pa_cons (pv 0) pa_nil)) (pa_cons (pe_callG G__law_odd (hr.down (by decide)) rfl T.m__law_odd T.F__law_odd.kp T.b__law_odd .nil pass0 (pa_cons (pv 0) pa_nil)) (pa_cons (pe_callG G__law_one_of (hr.down (by decide)) rfl T.m__law_one_of T.F__law_one_of.kp T.b__law_one_of .nil pass0 (pa_cons (pv 0) (pa_cons (pe_callTy c_list (by rfl) T.z_list (by decide +kernel) (pa_cons (pe_glob rfl T.m_RESERVED T.r_RESERVED) pa_nil)) pa_nil))) pa_nil)))))) (pg_name (i := 1) nd rfl (Or.inl rfl)) (pss_one (ps_if (pt_cmpR op_ne (pe_callB (call_reprD hr) (by rfl) T.z_repr (by decide +kernel) (pa_cons (pe_lst (pa_cons (pe_callG G_is_name (hr.down (by decide)) rfl T.m_is_name T.F_is_name.kp T.b_is_name .nil pass0 (pa_cons (pv 1) pa_nil)) (pa_cons (pe_callG G_is_answer (hr.down (by decide)) rfl T.m_is_answer T.F_is_answer.kp T.b_is_answer .nil pass0 (pa_cons (pv 1) pa_nil)) pa_nil))) pa_nil)) (pe_callB (call_reprD hr) (by rfl) T.z_repr (by decide +kernel) (pa_cons (pe_lst (pa_cons (pe_callG G__law_is_name (hr.down (by decide)) rfl T.m__law_is_name T.F__law_is_name.kp T.b__law_is_name .nil pass0 (pa_cons (pv 1) pa_nil)) (pa_cons (pe_callG G__law_is_answer (hr.down (by decide)) rfl T.m__law_is_answer T.F__law_is_answer.kp T.b__law_is_answer .nil pass0 (pa_cons (pv 1) pa_nil)) pa_nil))) pa_nil)) (nomark _)) (pss_one (ps_ret pe_bl)) pss_nil)))
  (pss_one (ps_ret pe_bl)))), ?_⟩
  walk_at "s"
  refine ⟨d, rfl, hd, fun s1 H1 dc1 t1 => ?_⟩
  walk_at "s"
  refine ⟨d, rfl, dc1.dice, fun s2 H2 dc2 t2 => ?_⟩
  walk_at "s"
  refine ⟨d, rfl, dc2.dice, fun x3 H3 dc3 o3 => ?_⟩
  walk_at "s"
  refine l_listT (T.q_RESERVED H3) fun l H4 nl sl el => ?_
  have dc4 := dc3.same sl
  have ne : l ≠ d := fun e => by
    obtain ⟨_, _, _, z⟩ := dc3.dice
    rw [e, z] at nl
    cases nl
  walk_at "s"
  refine ⟨d, l, _, rfl, dc4.dice, SqL.of el, ne, by show 0 < 4; decide, by show 4 < 1000000; decide, fun x4 H5 hx4 dc5 => ?_⟩
  obtain ⟨z4, rfl, t4⟩ : ∃ z, x4 = .str z ∧ Txt1 z := by
    simp only [List.mem_cons, List.not_mem_nil, or_false] at hx4
    rcases hx4 with rfl | rfl | rfl | rfl
    · exact ⟨_, rfl, by decide +kernel⟩
    · exact ⟨_, rfl, by decide +kernel⟩
    · exact ⟨_, rfl, by decide +kernel⟩
    · exact ⟨_, rfl, by decide +kernel⟩
  walk_at "s"
  refine l_newT (by show 4 ≤ sizeLine; decide) fun p H6 np sp ep => ?_
  have dc6 : Dc d H H6 := ((((dc1.trans dc2).trans dc3).same sl).trans dc5).same sp
  have odd : ∀ x ∈ ([.str s1, .str s2, x3, .str z4] : List V), OddV x H6 := by
    intro x hx
    simp only [List.mem_cons, List.not_mem_nil, or_false] at hx
    rcases hx with rfl | rfl | rfl | rfl
    · exact Or.inl ⟨_, rfl, t1⟩
    · exact Or.inl ⟨_, rfl, t2⟩
    · exact ((o3.same sl).dc dc5).same sp
    · exact Or.inl ⟨_, rfl, t4⟩
  refine l_forT (SqT.of ep) (fun i τ G => ∃ v : Option V, τ = [some (.ref d), v] ∧ Same H6 G) ⟨_, rfl, Same.refl H6⟩ (fun i τ G _ ⟨_, _, s⟩ => sqt_same s (SqT.of ep)) ?_ ?_
  · rintro i x τ G hx ⟨v, rfl, s⟩
    obtain ⟨b1, b2, q1, q2⟩ := told_of (K := K) (odd x (List.mem_of_getElem? hx))
    walk_at "s"
    refine q1 _ _ _ s fun G1 u1 => ?_
    walk_at "s"
    refine q2 _ _ _ (s.trans u1) fun G2 u2 => ?_
    walk_at "s"
    refine l_newL (by show 2 ≤ sizeLine; decide) fun l1 G3 _ u3 e3 => ?_
    walk_at "s"
    refine l_repr (d := .list [.bool b1, .bool b2]) (.lst (SqL.of e3) (.cons (.bl _) (.cons (.bl _) .nil))) (by rfl) (by rfl) (by cases b1 <;> cases b2 <;> decide) (shown2 b1 b2) ?_
    walk_at "s"
    refine q1 _ _ _ (((s.trans u1).trans u2).trans u3) fun G4 u4 => ?_
    walk_at "s"
    refine q2 _ _ _ ((((s.trans u1).trans u2).trans u3).trans u4) fun G5 u5 => ?_
    walk_at "s"
    refine l_newL (by show 2 ≤ sizeLine; decide) fun l2 G6 _ u6 e6 => ?_
    walk_at "s"
    refine l_repr (d := .list [.bool b1, .bool b2]) (.lst (SqL.of e6) (.cons (.bl _) (.cons (.bl _) .nil))) (by rfl) (by rfl) (by cases b1 <;> cases b2 <;> decide) (shown2 b1 b2) ?_
    walk_at "s"
    refine i_f (by rw [decide_eq_true rfl]; rfl) ?_
    walk_at "s"
    exact ⟨_, rfl, (((((s.trans u1).trans u2).trans u3).trans u4).trans u5).trans u6⟩
  · rintro τ G ⟨v, rfl, s⟩
    walk_at "s"
    exact k G (dc6.same s)
def toldV (f : Str → Bool) : V → V := fun v => match v with
  | .str s => .bl (f s)
  | _ => .bl false
theorem texts_of {vs : List V} (h : vs.all (fun v => match v with | .str s => decide (Txt1 s) | _ => false) = true) : ∀ v ∈ vs, ∃ s, v = .str s ∧ Txt1 s := by
  intro v hv
  have e := List.all_eq_true.mp h v hv
  cases v with
  | str s => exact ⟨s, rfl, of_decide_eq_true e⟩
  | _ => exact absurd e Bool.false_ne_true
theorem dp_bls {H : Hp} : ∀ bs : List Bool, DpAll K H (bs.map V.bl) (bs.map PyData.bool)
  | [] => .nil
  | b :: bs => .cons (.bl b) (dp_bls bs)
def bl_list (bs : List Bool) : PyData := .list (bs.map PyData.bool)
def sp_law (K : PySem.W.Frag) : Sp := fun vs H Q _ => ∃ (a : Addr) (ns : List Int), vs = [.ref a] ∧ SqL K H a (ns.map V.int) ∧ ns.length ≤ 63 ∧ ∀ H', Q (.bl true) H'
theorem ok_law (T : Txt K mg) : FnG P w K mg base CX0 8 T.a_law T.d_law ["script"] (sp_law K) := by
  have G__law_dice : FnG P w K mg base CX0 1 T.a__law_dice T.d__law_dice ["script", "at"] (sp__law_dice K) := ok__law_dice T
  have G__law_right : FnG P w K mg base CX0 4 T.a__law_right T.d__law_right ["dice"] sp__law_right := ok__law_right T
  have G_is_name : FnG P w K mg base CX0 1 T.a_is_name T.d_is_name ["value"] (sp_told K nameB) := ok_is_name T
  have G_is_answer : FnG P w K mg base CX0 2 T.a_is_answer T.d_is_answer ["value"] (sp_told K answerB1) := ok_is_answer T
  have HP := @PassesOwn.never
  refine (okG (k := 7) T.F_law sc_law (fun vs H Q E h => ?_) (fun cdv A fs s H vs Q E hr h => ?_))
  · obtain ⟨a, ns, rfl, _⟩ := h
    rfl
  obtain ⟨a, ns, rfl, hS, hlen, k⟩ := h
  have nd := sc_law.nd
  refine ⟨_, ((pss_cons (ps_for HP rfl (pi_range1 rfl T.z_range (pa_cons (pe_callB (c_max2 rfl) (by rfl) T.z_max (by decide +kernel) (pa_cons pe_int (pa_cons (pe_callB (c_min2 rfl) (by rfl) T.z_min (by decide +kernel) (pa_cons pe_int (pa_cons (pe_callB c_len (by rfl) T.z_len (by decide +kernel) (pa_cons (pv 0) pa_nil)) pa_nil))) pa_nil))) pa_nil)) (pg_name (i := 1) nd rfl (Or.inl rfl)) (pss_cons (ps_set (i := 2) nd rfl (Or.inl rfl) (pe_callG G__law_dice (hr.down (by decide)) rfl T.m__law_dice T.F__law_dice.kp T.b__law_dice .nil pass0 (pa_cons (pv 0) (pa_cons (pv 1) pa_nil))))
  (pss_one (ps_for HP rfl (pi_range1 rfl T.z_range (pa_cons pe_int pa_nil)) (pg_name (i := 3) nd rfl (Or.inl rfl)) (pss_one (ps_if (pt_not (pt_val (pe_callG G__law_right (hr.down (by decide)) rfl T.m__law_right T.F__law_right.kp T.b__law_right .nil pass0 (pa_cons (pv 2) pa_nil)))) (pss_one (ps_ret pe_bl)) pss_nil))))))
  (pss_cons (ps_set (i := 4) nd rfl (Or.inl rfl) (pe_lst (pa_consts (by rfl))))
  (pss_cons (ps_if (pt_cmpR (op_neD hr.r.units) (pe_lc (own := [("one", 6)]) rfl nd (pi_list (pv 4)) (blkOk_by (own := [("one", 6)]) (N := ["script", "at", "dice", "turn", "words", "told", "one", "size"]) (sc := defScope s_law) (by decide +kernel)) (fun _ _ _ _ _ => pg_name (i := 6) nd rfl (Or.inl rfl)) (fun _ _ _ _ _ => pts_nil) (fun _ _ _ _ _ => by exact (pe_callG G_is_name (hr.down (by decide)) rfl T.m_is_name T.F_is_name.kp T.b_is_name .nil pass0 (pa_cons (pv 6) pa_nil)))) (pe_op op_cat (pe_op op_cat (pe_op op_rep (pe_lst (pa_cons pe_bl pa_nil)) pe_int) (pe_op op_rep (pe_lst (pa_cons pe_bl pa_nil)) pe_int)) (pe_lst (pa_cons pe_bl (pa_cons pe_bl pa_nil)))) (nomark _)) (pss_one (ps_ret pe_bl)) pss_nil)
  (pss_cons (ps_if (pt_cmpR (op_neD hr.r.units) (pe_lc (own := [("size", 7)]) rfl nd (pi_tup (pe_tup (pa_cons pe_int (pa_cons pe_int (pa_cons pe_int pa_nil))))) (blkOk_by (own := [("size", 7)]) (N := ["script", "at", "dice", "turn", "words", "told", "one", "size"]) (sc := defScope s_law) (by decide +kernel)) (fun _ _ _ _ _ => pg_name (i := 7) nd rfl (Or.inl rfl)) (fun _ _ _ _ _ => pts_nil) (fun _ _ _ _ _ => by exact (pe_or (pe_callG G_is_name (hr.down (by decide)) rfl T.m_is_name T.F_is_name.kp T.b_is_name .nil pass0 (pa_cons (pe_op op_times pe_str (pv 7)) pa_nil)) (pe_one (pe_callG G_is_answer (hr.down (by decide)) rfl T.m_is_answer T.F_is_answer.kp T.b_is_answer .nil pass0 (pa_cons (pe_op op_times pe_str (pv 7)) pa_nil)))))) (pe_op op_rep (pe_lst (pa_cons pe_bl pa_nil)) pe_int) (nomark _)) (pss_one (ps_ret pe_bl)) pss_nil)
  (pss_cons (ps_setLc (i := 5) (own := [("one", 6)]) rfl nd rfl rfl (sw_true rfl rfl rfl (by decide +kernel)) (pi_tup (pe_tup (pa_consts (by rfl)))) (blkOk_by (own := [("one", 6)]) (N := ["script", "at", "dice", "turn", "words", "told", "one", "size"]) (sc := defScope s_law) (by decide +kernel)) (fun _ _ _ _ _ => pg_name (i := 6) nd rfl (Or.inl rfl)) (fun _ _ _ _ _ => pts_nil) (fun _ _ _ _ _ => by exact (pe_callG G_is_answer (hr.down (by decide)) rfl T.m_is_answer T.F_is_answer.kp T.b_is_answer .nil pass0 (pa_cons (pv 6) pa_nil))))
  (pss_one (ps_ret (pe_and (pe_cmpR (op_eqD hr.r.units) (pv 5) (pe_op op_cat (pe_op op_rep (pe_lst (pa_cons pe_bl pa_nil)) pe_int) (pe_op op_rep (pe_lst (pa_cons pe_bl pa_nil)) pe_int)) (nomark _)) (pe_one (pe_cmpR (op_eqD hr.r.units) (pe_glob rfl T.m_RESERVED T.r_RESERVED) (pe_tup (pa_consts (by rfl))) (nomark _)))))))))))), ?_⟩
  walk_at "s"
  have small : ∀ n : Int, n = (if (if ((ns.map V.int).length : Int) < 6 then ((ns.map V.int).length : Int) else 6) > 1 then (if ((ns.map V.int).length : Int) < 6 then ((ns.map V.int).length : Int) else 6) else 1) → 0 ≤ n ∧ n ≤ 6 := by
    intro n e
    subst e
    split <;> split <;> omega
  have sm := small _ rfl
  refine l_forR (by omega) (by omega) (fun i τ G => ∃ u1 u2 u3 : Option V, τ = [some (.ref a), u1, u2, u3, none, none, none, none] ∧ Same H G) ⟨_, _, _, rfl, Same.refl H⟩ ?_ ?_
  · rintro i τ G hi ⟨u1, u2, u3, rfl, sG⟩
    walk_at "s"
    refine ⟨a, ns, _, rfl, sG.seq hS, by omega, fun d G1 nd1 s1 dice1 => ?_⟩
    walk_at "s"
    refine l_forR (by decide) (by decide) (fun j τ J => ∃ u : Option V, τ = [some (.ref a), some (.int (i : Int)), some (.ref d), u, none, none, none, none] ∧ Dc d G1 J) ⟨_, rfl, Dc.refl dice1⟩ ?_ ?_
    · rintro j τ J hj ⟨u, rfl, dc⟩
      walk_at "s"
      refine ⟨d, rfl, dc.dice, fun J2 dc2 => ?_⟩
      walk_at "s"
      refine i_f rfl ?_
      walk_at "s"
      exact ⟨_, rfl, dc.trans dc2⟩
    · rintro τ J ⟨u, rfl, dc⟩
      exact ⟨_, _, _, rfl, same_keep (sG.trans s1) (sG.free nd1) dc.keep⟩
  · rintro τ G ⟨u1, u2, u3, rfl, sG⟩
    walk_at "s"
    refine l_newL (by show 9 ≤ sizeLine; decide) fun pw G1 _ s1 e1 => ?_
    walk_at "s"
    refine l_lcL (SqL.of e1) (fun _ => true) (toldV nameB) (by show 9 ≤ 100000; decide) (fun x _ J _ R r => r J (Same.refl J)) (fun x hx _ J _ R r => ?_) (fun D G2 nD s2 e2 => ?_)
    · obtain ⟨s, rfl, hs⟩ := texts_of (by decide +kernel) x hx
      walk_at "s"
      exact ⟨_, rfl, Or.inl ⟨s, rfl, hs, r⟩⟩
    have e2 : G2 D = some (.lst (([true, true, true, false, false, false, false, true, true] : List Bool).map V.bl)) := by
      rw [e2]
      exact congrArg (fun l => some (HO.lst l)) (by decide +kernel)
    walk_at "s"
    refine l_newL (by show 1 ≤ sizeLine; decide) fun q1 G3 _ s3 e3 => ?_
    walk_at "s"
    refine l_rep e3 (by decide) (by decide) (by show 1 * 3 ≤ sizeLine; decide) fun q2 G4 _ s4 e4 => ?_
    walk_at "s"
    refine l_newL (by show 1 ≤ sizeLine; decide) fun q3 G5 _ s5 e5 => ?_
    walk_at "s"
    refine l_rep e5 (by decide) (by decide) (by show 1 * 4 ≤ sizeLine; decide) fun q4 G6 _ s6 e6 => ?_
    refine l_cat ((s5.trans s6) _ _ e4) e6 (by show 3 + 4 ≤ sizeLine; decide) fun q5 G7 _ s7 e7 => ?_
    walk_at "s"
    refine l_newL (by show 2 ≤ sizeLine; decide) fun q6 G8 _ s8 e8 => ?_
    refine l_cat (s8 _ _ e7) e8 (by show 7 + 2 ≤ sizeLine; decide) fun q7 G9 _ s9 e9 => ?_
    have e9 : G9 q7 = some (.lst (([true, true, true, false, false, false, false, true, true] : List Bool).map V.bl)) := e9
    refine l_neD (.lst (SqL.of (((((((s3.trans s4).trans s5).trans s6).trans s7).trans s8).trans s9) _ _ e2)) (dp_bls _)) (.lst (SqL.of e9) (dp_bls _)) (by decide +kernel) (by decide +kernel) ?_
    walk_at "s"
    refine i_f (by decide +kernel) ?_
    walk_at "s"
    refine l_newT (by show 3 ≤ sizeLine; decide) fun pz G10 _ s10 e10 => ?_
    walk_at "s"
    refine l_lcT (SqT.of e10) (fun _ => true) (fun _ => V.bl false) (by show 3 ≤ 100000; decide) (fun x _ J _ R r => r J (Same.refl J)) (fun x hx _ J _ R r => ?_) (fun D2 G11 _ s11 e11 => ?_)
    · have hn : ∃ n : Nat, x = .int (n : Int) ∧ 2 ≤ n ∧ n ≤ 40 := by
        simp only [List.mem_cons, List.not_mem_nil, or_false] at hx
        rcases hx with rfl | rfl | rfl
        · exact ⟨2, rfl, by decide, by decide⟩
        · exact ⟨3, rfl, by decide, by decide⟩
        · exact ⟨40, rfl, by decide, by decide⟩
      obtain ⟨n, rfl, n2, n40⟩ := hn
      have zl : (⟨(List.replicate n (Str.ofString "abcdefgh").cps).foldl (· ++ ·) #[]⟩ : Str).length = n * 8 := by
        show ((List.replicate n (Str.ofString "abcdefgh").cps).foldl (· ++ ·) #[]).size = _
        rw [rep_size]
        have e : (Str.ofString "abcdefgh").cps.size = 8 := by decide +kernel
        rw [e]
        show 0 + n * 8 = n * 8
        omega
      have ascii : ∀ c ∈ (⟨(List.replicate n (Str.ofString "abcdefgh").cps).foldl (· ++ ·) #[]⟩ : Str).cps.toList, c < 128 := fun c hc => by
        have h := rep_mem hc
        rcases h with h | h
        · cases h
        · have all : ∀ c ∈ (Str.ofString "abcdefgh").cps.toList, c < 128 := by decide +kernel
          exact all c h
      have no : nameB (⟨(List.replicate n (Str.ofString "abcdefgh").cps).foldl (· ++ ·) #[]⟩ : Str) = false := by
        unfold nameB
        rw [zl, decide_eq_false (show ¬ n * 8 ≤ 8 by omega), Bool.and_false, Bool.false_and]
      have no2 : answerB1 (⟨(List.replicate n (Str.ofString "abcdefgh").cps).foldl (· ++ ·) #[]⟩ : Str) = false := by
        unfold answerB1
        rw [no, Bool.false_and]
      have e8 : (Str.ofString "abcdefgh").length = 8 := by decide +kernel
      walk_at "s"
      refine l_times n2 (by rw [e8]; decide) (by rw [e8]; omega) ?_
      walk_at "s"
      refine ⟨_, rfl, Or.inl ⟨_, rfl, ⟨by rw [zl]; omega, ascii⟩, fun J1 t1 => ?_⟩⟩
      refine l_bl (i_f no ?_)
      walk_at "s"
      refine l_times n2 (by rw [e8]; decide) (by rw [e8]; omega) ?_
      walk_at "s"
      refine ⟨_, rfl, Or.inl ⟨_, rfl, ⟨by rw [zl]; omega, ascii⟩, fun J2 t2 => ?_⟩⟩
      rw [no2]
      exact r J2 (t1.trans t2)
    have e11 : G11 D2 = some (.lst (([false, false, false] : List Bool).map V.bl)) := e11
    walk_at "s"
    refine l_newL (by show 1 ≤ sizeLine; decide) fun r1 G12 _ s12 e12 => ?_
    walk_at "s"
    refine l_rep e12 (by decide) (by decide) (by show 1 * 3 ≤ sizeLine; decide) fun r2 G13 _ s13 e13 => ?_
    have e13 : G13 r2 = some (.lst (([false, false, false] : List Bool).map V.bl)) := e13
    refine l_neD (.lst (SqL.of ((s12.trans s13) _ _ e11)) (dp_bls _)) (.lst (SqL.of e13) (dp_bls _)) (by decide +kernel) (by decide +kernel) ?_
    walk_at "s"
    refine i_f (by decide +kernel) ?_
    walk_at "s"
    refine l_newT (by show 7 ≤ sizeLine; decide) fun pt G14 _ s14 e14 => ?_
    walk_at "s"
    refine l_lcT (SqT.of e14) (fun _ => true) (toldV answerB1) (by show 7 ≤ 100000; decide) (fun x _ J _ R r => r J (Same.refl J)) (fun x hx _ J _ R r => ?_) (fun D3 G15 _ s15 e15 => ?_)
    · obtain ⟨s, rfl, hs⟩ := texts_of (by decide +kernel) x hx
      walk_at "s"
      exact ⟨_, rfl, Or.inl ⟨s, rfl, hs, r⟩⟩
    have e15 : G15 D3 = some (.lst (([false, false, false, false, true, true, true] : List Bool).map V.bl)) := by
      rw [e15]
      exact congrArg (fun l => some (HO.lst l)) (by decide +kernel)
    walk_at "s"
    refine l_newL (by show 1 ≤ sizeLine; decide) fun u1 G16 _ s16 e16 => ?_
    walk_at "s"
    refine l_rep e16 (by decide) (by decide) (by show 1 * 4 ≤ sizeLine; decide) fun u2 G17 _ s17 e17 => ?_
    walk_at "s"
    refine l_newL (by show 1 ≤ sizeLine; decide) fun u3 G18 _ s18 e18 => ?_
    walk_at "s"
    refine l_rep e18 (by decide) (by decide) (by show 1 * 3 ≤ sizeLine; decide) fun u4 G19 _ s19 e19 => ?_
    refine l_cat ((s18.trans s19) _ _ e17) e19 (by show 4 + 3 ≤ sizeLine; decide) fun u5 G20 _ s20 e20 => ?_
    have e20 : G20 u5 = some (.lst (([false, false, false, false, true, true, true] : List Bool).map V.bl)) := e20
    refine l_eqD (.lst (SqL.of (((((s16.trans s17).trans s18).trans s19).trans s20) _ _ e15)) (dp_bls _)) (.lst (SqL.of e20) (dp_bls _)) (by decide +kernel) (by decide +kernel) ?_
    walk_at "s"
    refine i_t (by decide +kernel) ?_
    walk_at "s"
    refine l_newT (by show 4 ≤ sizeLine; decide) fun v1 G21 _ s21 e21 => ?_
    refine l_eqD (d := .tuple [.str "failed", .str "kept", .str "skipped", .str "undone"]) (e := .tuple [.str "failed", .str "kept", .str "skipped", .str "undone"])
      (.tup (T.q_RESERVED _) (.cons (.str _) (.cons (.str _) (.cons (.str _) (.cons (.str _) .nil))))) (.tup (SqT.of e21) (.cons (.str _) (.cons (.str _) (.cons (.str _) (.cons (.str _) .nil))))) (by decide +kernel) (by decide +kernel) ?_
    have e : PyData.eqv (.tuple [.str "failed", .str "kept", .str "skipped", .str "undone"]) (.tuple [.str "failed", .str "kept", .str "skipped", .str "undone"]) = true := by decide +kernel
    rw [e]
    exact k _
end
set_option maxHeartbeats 4000000 in
theorem all_mk {l : PySem.W.OpenLaw} {w : World} {K : PySem.W.Frag} {h : Heap} {mg : Str → Option Value} {fa : Addr} (X : K.In h) (G : h.Ns mainGlobals mg) (hfa : mg "law" = some (.ref fa))
    {f0 : Addr} {od0 an0 : Option Addr} {sl0 : Array (Option Value)} {oc0 kV0 dc0 pm0 cd0 ct0 : Value}
    {f1 : Addr} {od1 an1 : Option Addr} {sl1 : Array (Option Value)} {oc1 kV1 dc1 pm1 cd1 ct1 : Value}
    {f2 : Addr} {od2 an2 : Option Addr} {sl2 : Array (Option Value)} {oc2 kV2 dc2 pm2 cd2 ct2 : Value}
    {f3 : Addr} {od3 an3 : Option Addr} {sl3 : Array (Option Value)} {oc3 kV3 dc3 pm3 cd3 ct3 : Value}
    {f4 : Addr} {od4 an4 : Option Addr} {sl4 : Array (Option Value)} {oc4 kV4 dc4 pm4 cd4 ct4 : Value}
    {f5 : Addr} {od5 an5 : Option Addr} {sl5 : Array (Option Value)} {oc5 kV5 dc5 pm5 cd5 ct5 : Value}
    {f6 : Addr} {od6 an6 : Option Addr} {sl6 : Array (Option Value)} {oc6 kV6 dc6 pm6 cd6 ct6 : Value}
    {f7 : Addr} {od7 an7 : Option Addr} {sl7 : Array (Option Value)} {oc7 kV7 dc7 pm7 cd7 ct7 : Value}
    {f8 : Addr} {od8 an8 : Option Addr} {sl8 : Array (Option Value)} {oc8 kV8 dc8 pm8 cd8 ct8 : Value}
    {f9 : Addr} {od9 an9 : Option Addr} {sl9 : Array (Option Value)} {oc9 kV9 dc9 pm9 cd9 ct9 : Value}
    {f10 : Addr} {od10 an10 : Option Addr} {sl10 : Array (Option Value)} {oc10 kV10 dc10 pm10 cd10 ct10 : Value}
    {f11 : Addr} {od11 an11 : Option Addr} {sl11 : Array (Option Value)} {oc11 kV11 dc11 pm11 cd11 ct11 : Value}
    {t_MAX_LETTERS : Tok}
    {p_RESERVED : Addr} {n_RESERVED : Nat} {sl_RESERVED : Array (Option Value)} {od_RESERVED : Option Addr} {t0_RESERVED : Tok} {t1_RESERVED : Tok} {t2_RESERVED : Tok} {t3_RESERVED : Tok}
    (a0 : PySem.W.nsIn K mainGlobals "is_name" = some (some (.ref f0))) (l0 : K.lookup f0 = some ⟨oc0, od0, .func (PySem.W.fnOf "is_name" "is_name" (defArgs s_is_name) (defBody s_is_name) (defScope s_is_name) .none kV0 dc0 pm0 an0 cd0 ct0), sl0⟩) (c0 : PySem.W.codeIn K cd0 "is_name" = true) (k0 : PySem.W.keepIn K (.ref f0) = true)
    (a1 : PySem.W.nsIn K mainGlobals "is_answer" = some (some (.ref f1))) (l1 : K.lookup f1 = some ⟨oc1, od1, .func (PySem.W.fnOf "is_answer" "is_answer" (defArgs s_is_answer) (defBody s_is_answer) (defScope s_is_answer) .none kV1 dc1 pm1 an1 cd1 ct1), sl1⟩) (c1 : PySem.W.codeIn K cd1 "is_answer" = true) (k1 : PySem.W.keepIn K (.ref f1) = true)
    (a2 : PySem.W.nsIn K mainGlobals "_law_dice" = some (some (.ref f2))) (l2 : K.lookup f2 = some ⟨oc2, od2, .func (PySem.W.fnOf "_law_dice" "_law_dice" (defArgs s__law_dice) (defBody s__law_dice) (defScope s__law_dice) .none kV2 dc2 pm2 an2 cd2 ct2), sl2⟩) (c2 : PySem.W.codeIn K cd2 "_law_dice" = true) (k2 : PySem.W.keepIn K (.ref f2) = true)
    (a3 : PySem.W.nsIn K mainGlobals "_law_roll" = some (some (.ref f3))) (l3 : K.lookup f3 = some ⟨oc3, od3, .func (PySem.W.fnOf "_law_roll" "_law_roll" (defArgs s__law_roll) (defBody s__law_roll) (defScope s__law_roll) .none kV3 dc3 pm3 an3 cd3 ct3), sl3⟩) (c3 : PySem.W.codeIn K cd3 "_law_roll" = true) (k3 : PySem.W.keepIn K (.ref f3) = true)
    (a4 : PySem.W.nsIn K mainGlobals "_law_one_of" = some (some (.ref f4))) (l4 : K.lookup f4 = some ⟨oc4, od4, .func (PySem.W.fnOf "_law_one_of" "_law_one_of" (defArgs s__law_one_of) (defBody s__law_one_of) (defScope s__law_one_of) .none kV4 dc4 pm4 an4 cd4 ct4), sl4⟩) (c4 : PySem.W.codeIn K cd4 "_law_one_of" = true) (k4 : PySem.W.keepIn K (.ref f4) = true)
    (a5 : PySem.W.nsIn K mainGlobals "_law_odd" = some (some (.ref f5))) (l5 : K.lookup f5 = some ⟨oc5, od5, .func (PySem.W.fnOf "_law_odd" "_law_odd" (defArgs s__law_odd) (defBody s__law_odd) (defScope s__law_odd) .none kV5 dc5 pm5 an5 cd5 ct5), sl5⟩) (c5 : PySem.W.codeIn K cd5 "_law_odd" = true) (k5 : PySem.W.keepIn K (.ref f5) = true)
    (a6 : PySem.W.nsIn K mainGlobals "_law_is_name" = some (some (.ref f6))) (l6 : K.lookup f6 = some ⟨oc6, od6, .func (PySem.W.fnOf "_law_is_name" "_law_is_name" (defArgs s__law_is_name) (defBody s__law_is_name) (defScope s__law_is_name) .none kV6 dc6 pm6 an6 cd6 ct6), sl6⟩) (c6 : PySem.W.codeIn K cd6 "_law_is_name" = true) (k6 : PySem.W.keepIn K (.ref f6) = true)
    (a7 : PySem.W.nsIn K mainGlobals "_law_is_answer" = some (some (.ref f7))) (l7 : K.lookup f7 = some ⟨oc7, od7, .func (PySem.W.fnOf "_law_is_answer" "_law_is_answer" (defArgs s__law_is_answer) (defBody s__law_is_answer) (defScope s__law_is_answer) .none kV7 dc7 pm7 an7 cd7 ct7), sl7⟩) (c7 : PySem.W.codeIn K cd7 "_law_is_answer" = true) (k7 : PySem.W.keepIn K (.ref f7) = true)
    (a8 : PySem.W.nsIn K mainGlobals "_law_signs" = some (some (.ref f8))) (l8 : K.lookup f8 = some ⟨oc8, od8, .func (PySem.W.fnOf "_law_signs" "_law_signs" (defArgs s__law_signs) (defBody s__law_signs) (defScope s__law_signs) .none kV8 dc8 pm8 an8 cd8 ct8), sl8⟩) (c8 : PySem.W.codeIn K cd8 "_law_signs" = true) (k8 : PySem.W.keepIn K (.ref f8) = true)
    (a9 : PySem.W.nsIn K mainGlobals "_law_word" = some (some (.ref f9))) (l9 : K.lookup f9 = some ⟨oc9, od9, .func (PySem.W.fnOf "_law_word" "_law_word" (defArgs s__law_word) (defBody s__law_word) (defScope s__law_word) .none kV9 dc9 pm9 an9 cd9 ct9), sl9⟩) (c9 : PySem.W.codeIn K cd9 "_law_word" = true) (k9 : PySem.W.keepIn K (.ref f9) = true)
    (a10 : PySem.W.nsIn K mainGlobals "_law_right" = some (some (.ref f10))) (l10 : K.lookup f10 = some ⟨oc10, od10, .func (PySem.W.fnOf "_law_right" "_law_right" (defArgs s__law_right) (defBody s__law_right) (defScope s__law_right) .none kV10 dc10 pm10 an10 cd10 ct10), sl10⟩) (c10 : PySem.W.codeIn K cd10 "_law_right" = true) (k10 : PySem.W.keepIn K (.ref f10) = true)
    (a11 : PySem.W.nsIn K mainGlobals "law" = some (some (.ref f11))) (l11 : K.lookup f11 = some ⟨oc11, od11, .func (PySem.W.fnOf "law" "law" (defArgs s_law) (defBody s_law) (defScope s_law) .none kV11 dc11 pm11 an11 cd11 ct11), sl11⟩) (c11 : PySem.W.codeIn K cd11 "law" = true) (k11 : PySem.W.keepIn K (.ref f11) = true)
    (z_abs : PySem.W.nsIn K mainGlobals "abs" = some none)
    (z_int : PySem.W.nsIn K mainGlobals "int" = some none)
    (z_isinstance : PySem.W.nsIn K mainGlobals "isinstance" = some none)
    (z_len : PySem.W.nsIn K mainGlobals "len" = some none)
    (z_list : PySem.W.nsIn K mainGlobals "list" = some none)
    (z_max : PySem.W.nsIn K mainGlobals "max" = some none)
    (z_min : PySem.W.nsIn K mainGlobals "min" = some none)
    (z_range : PySem.W.nsIn K mainGlobals "range" = some none)
    (z_repr : PySem.W.nsIn K mainGlobals "repr" = some none)
    (z_str : PySem.W.nsIn K mainGlobals "str" = some none)
    (v_MAX_LETTERS : PySem.W.nsIn K mainGlobals "MAX_LETTERS" = some (some (.int 8 t_MAX_LETTERS)))
    (v_RESERVED : PySem.W.nsIn K mainGlobals "RESERVED" = some (some (.ref p_RESERVED))) (w_RESERVED : K.lookup p_RESERVED = some ⟨.type "tuple", od_RESERVED, .seq ([.str "failed" t0_RESERVED, .str "kept" t1_RESERVED, .str "skipped" t2_RESERVED, .str "undone" t3_RESERVED] : List Value).toArray n_RESERVED, sl_RESERVED⟩)
    : ∃ fd : FuncData, (∀ (s : Shared) (v : Value), BindsTo s fd ⟨[v], []⟩ [("script", v)]) ∧ ∀ base : Heap, K.In base → base.Ns mainGlobals mg → FnG l.prog w K mg base CX0 8 fa fd ["script"] (sp_law K) := by
  have e := hfa.symm.trans (PySem.W.mg_of X G a11)
  cases e
  have T : ∃ T : Txt K mg, T.a_law = fa ∧ T.d_law = PySem.W.fnOf "law" "law" (defArgs s_law) (defBody s_law) (defScope s_law) .none kV11 dc11 pm11 an11 cd11 ct11 := ⟨{
    a_is_name := f0
    d_is_name := _
    F_is_name := fun_mk (st := s_is_name) l0 c0 k0
    m_is_name := PySem.W.mg_of X G a0
    b_is_name := (fun_mk (st := s_is_name) l0 c0 k0).binds (ps := ["value"]) fun _ _ _ _ _ _ us hl => match us, hl with | [_], _ => rfl
    a_is_answer := f1
    d_is_answer := _
    F_is_answer := fun_mk (st := s_is_answer) l1 c1 k1
    m_is_answer := PySem.W.mg_of X G a1
    b_is_answer := (fun_mk (st := s_is_answer) l1 c1 k1).binds (ps := ["value"]) fun _ _ _ _ _ _ us hl => match us, hl with | [_], _ => rfl
    a__law_dice := f2
    d__law_dice := _
    F__law_dice := fun_mk (st := s__law_dice) l2 c2 k2
    m__law_dice := PySem.W.mg_of X G a2
    b__law_dice := (fun_mk (st := s__law_dice) l2 c2 k2).binds (ps := ["script", "at"]) fun _ _ _ _ _ _ us hl => match us, hl with | [_, _], _ => rfl
    a__law_roll := f3
    d__law_roll := _
    F__law_roll := fun_mk (st := s__law_roll) l3 c3 k3
    m__law_roll := PySem.W.mg_of X G a3
    b__law_roll := (fun_mk (st := s__law_roll) l3 c3 k3).binds (ps := ["dice", "total"]) fun _ _ _ _ _ _ us hl => match us, hl with | [_, _], _ => rfl
    a__law_one_of := f4
    d__law_one_of := _
    F__law_one_of := fun_mk (st := s__law_one_of) l4 c4 k4
    m__law_one_of := PySem.W.mg_of X G a4
    b__law_one_of := (fun_mk (st := s__law_one_of) l4 c4 k4).binds (ps := ["dice", "items"]) fun _ _ _ _ _ _ us hl => match us, hl with | [_, _], _ => rfl
    a__law_odd := f5
    d__law_odd := _
    F__law_odd := fun_mk (st := s__law_odd) l5 c5 k5
    m__law_odd := PySem.W.mg_of X G a5
    b__law_odd := (fun_mk (st := s__law_odd) l5 c5 k5).binds (ps := ["dice"]) fun _ _ _ _ _ _ us hl => match us, hl with | [_], _ => rfl
    a__law_is_name := f6
    d__law_is_name := _
    F__law_is_name := fun_mk (st := s__law_is_name) l6 c6 k6
    m__law_is_name := PySem.W.mg_of X G a6
    b__law_is_name := (fun_mk (st := s__law_is_name) l6 c6 k6).binds (ps := ["value"]) fun _ _ _ _ _ _ us hl => match us, hl with | [_], _ => rfl
    a__law_is_answer := f7
    d__law_is_answer := _
    F__law_is_answer := fun_mk (st := s__law_is_answer) l7 c7 k7
    m__law_is_answer := PySem.W.mg_of X G a7
    b__law_is_answer := (fun_mk (st := s__law_is_answer) l7 c7 k7).binds (ps := ["value"]) fun _ _ _ _ _ _ us hl => match us, hl with | [_], _ => rfl
    a__law_signs := f8
    d__law_signs := _
    F__law_signs := fun_mk (st := s__law_signs) l8 c8 k8
    m__law_signs := PySem.W.mg_of X G a8
    b__law_signs := (fun_mk (st := s__law_signs) l8 c8 k8).binds (ps := []) fun _ _ _ _ _ _ us hl => match us, hl with | [], _ => rfl
    a__law_word := f9
    d__law_word := _
    F__law_word := fun_mk (st := s__law_word) l9 c9 k9
    m__law_word := PySem.W.mg_of X G a9
    b__law_word := (fun_mk (st := s__law_word) l9 c9 k9).binds (ps := ["dice"]) fun _ _ _ _ _ _ us hl => match us, hl with | [_], _ => rfl
    a__law_right := f10
    d__law_right := _
    F__law_right := fun_mk (st := s__law_right) l10 c10 k10
    m__law_right := PySem.W.mg_of X G a10
    b__law_right := (fun_mk (st := s__law_right) l10 c10 k10).binds (ps := ["dice"]) fun _ _ _ _ _ _ us hl => match us, hl with | [_], _ => rfl
    a_law := fa
    d_law := _
    F_law := fun_mk (st := s_law) l11 c11 k11
    m_law := PySem.W.mg_of X G a11
    b_law := (fun_mk (st := s_law) l11 c11 k11).binds (ps := ["script"]) fun _ _ _ _ _ _ us hl => match us, hl with | [_], _ => rfl
    z_abs := PySem.W.mg_none_of X G z_abs
    z_int := PySem.W.mg_none_of X G z_int
    z_isinstance := PySem.W.mg_none_of X G z_isinstance
    z_len := PySem.W.mg_none_of X G z_len
    z_list := PySem.W.mg_none_of X G z_list
    z_max := PySem.W.mg_none_of X G z_max
    z_min := PySem.W.mg_none_of X G z_min
    z_range := PySem.W.mg_none_of X G z_range
    z_repr := PySem.W.mg_none_of X G z_repr
    z_str := PySem.W.mg_none_of X G z_str
    t_MAX_LETTERS := t_MAX_LETTERS
    m_MAX_LETTERS := PySem.W.mg_of X G v_MAX_LETTERS
    a_RESERVED := p_RESERVED
    m_RESERVED := PySem.W.mg_of X G v_RESERVED
    q_RESERVED := fun H => Or.inr ⟨_, _, _, w_RESERVED, rfl, rfl, (by show 4 ≤ sizeLine; decide), .cons ⟨_, rfl⟩ (.cons ⟨_, rfl⟩ (.cons ⟨_, rfl⟩ (.cons ⟨_, rfl⟩ (.nil))))⟩
    }, rfl, rfl⟩
  obtain ⟨T, e1, e2⟩ := T
  refine ⟨PySem.W.fnOf "law" "law" (defArgs s_law) (defBody s_law) (defScope s_law) .none kV11 dc11 pm11 an11 cd11 ct11, fun s v => .of_eq rfl, fun base _ _ => ?_⟩
  have r := ok_law (P := l.prog) (w := w) (base := base) T
  rw [e1, e2] at r
  exact r
theorem walk {l : PySem.W.OpenLaw} {q : Program} {loose : List Str} {XP : (Str → Option Value) → Heap → Prop} {YP : World → Heap → Prop} {d : DefRec} {K : Params → PySem.W.Frag} (hn : l.most = some 63) (hdf : d.params.defaults = [])
    (hY : ∀ (w : World) (h : Heap), YP w h → (K w.params).In h)
    (F : ∀ (w : World) (mg : Str → Option Value) (fa : Addr) (h : Heap), (K w.params).In h → h.Ns mainGlobals mg → mg d.name = some (.ref fa) →
      ∃ fd : FuncData, (∀ (s : Shared) (u : Value), BindsTo s fd ⟨[u], []⟩ [("script", u)]) ∧ ∀ base : Heap, (K w.params).In base → base.Ns mainGlobals mg → FnG l.prog w (K w.params) mg base CX0 8 fa fd ["script"] (sp_law (K w.params))) :
    PySem.W.WalkO q loose XP YP l.row.toRowW d [] (fun f vs => PySem.call f vs) :=
  law_walk (n := 63) (k := 8) (x := "script") (CX := fun _ => CX0) (sp := fun w => sp_law (K w.params)) hn (by decide) hdf ⟨rfl, by decide, by decide⟩ hY F (fun _ _ a ns hl hS => ⟨a, ns, rfl, hS, hl, fun _ => rfl⟩) fun _ _ _ _ _ z => z
end K01
open PySem PySem.W PyProof.Rows in
set_option maxRecDepth 100000 in
set_option maxHeartbeats 0 in
theorem PySem.Challenge.cw_skipahead_k01_names_holds : PySem.Challenge.rw_skipahead_k01_names.Holds := by
  w_on; o_law; k_head; (case hw => w_witness2)
  k_fill
  refine K01.walk (l := PySem.Challenge.rw_skipahead_k01_names) rfl rfl (fun w h Y => PySem.W.kIn_of Y) ?F
  case F =>
    intro w mg fa h KX G hmg
    refine' K01.all_mk KX G hmg ?a0 ?l0 ?c0 ?k0 ?a1 ?l1 ?c1 ?k1 ?a2 ?l2 ?c2 ?k2 ?a3 ?l3 ?c3 ?k3 ?a4 ?l4 ?c4 ?k4 ?a5 ?l5 ?c5 ?k5 ?a6 ?l6 ?c6 ?k6 ?a7 ?l7 ?c7 ?k7 ?a8 ?l8 ?c8 ?k8 ?a9 ?l9 ?c9 ?k9 ?a10 ?l10 ?c10 ?k10 ?a11 ?l11 ?c11 ?k11 ?z_abs ?z_int ?z_isinstance ?z_len ?z_list ?z_max ?z_min ?z_range ?z_repr ?z_str ?v_MAX_LETTERS ?v_RESERVED ?w_RESERVED
    (case a0 => k_is)
    (case l0 => k_is)
    (case c0 => k_is)
    (case k0 => k_is)
    (case a1 => k_is)
    (case l1 => k_is)
    (case c1 => k_is)
    (case k1 => k_is)
    (case a2 => k_is)
    (case l2 => k_is)
    (case c2 => k_is)
    (case k2 => k_is)
    (case a3 => k_is)
    (case l3 => k_is)
    (case c3 => k_is)
    (case k3 => k_is)
    (case a4 => k_is)
    (case l4 => k_is)
    (case c4 => k_is)
    (case k4 => k_is)
    (case a5 => k_is)
    (case l5 => k_is)
    (case c5 => k_is)
    (case k5 => k_is)
    (case a6 => k_is)
    (case l6 => k_is)
    (case c6 => k_is)
    (case k6 => k_is)
    (case a7 => k_is)
    (case l7 => k_is)
    (case c7 => k_is)
    (case k7 => k_is)
    (case a8 => k_is)
    (case l8 => k_is)
    (case c8 => k_is)
    (case k8 => k_is)
    (case a9 => k_is)
    (case l9 => k_is)
    (case c9 => k_is)
    (case k9 => k_is)
    (case a10 => k_is)
    (case l10 => k_is)
    (case c10 => k_is)
    (case k10 => k_is)
    (case a11 => k_is)
    (case l11 => k_is)
    (case c11 => k_is)
    (case k11 => k_is)
    (case z_abs => k_is)
    (case z_int => k_is)
    (case z_isinstance => k_is)
    (case z_len => k_is)
    (case z_list => k_is)
    (case z_max => k_is)
    (case z_min => k_is)
    (case z_range => k_is)
    (case z_repr => k_is)
    (case z_str => k_is)
    (case v_MAX_LETTERS => k_is)
    (case v_RESERVED => k_is)
    (case w_RESERVED => k_is)
