import PyProof.Rows.All
import Wide.All
import OpenK.AllK
import Wide.FinOn
import HandS.Base
import HandS.Call
import HandS.Ends
import HandS.ForMost
import HandS.Walk
import HandS.Exc
import HandS.ExcOwn
import HandS.ExcInit
import HandS.ExcField
import HandS.ExcIs
import HandS.WordsExc
import KE.KExcInit
import PyProof.ExcBaseAll.LookupError
import HandS.Wide
import PySem.Challenge.RW_bandprint_k78_numbers_that_leave_rests
import HandS.Gcd
import HandS.Zip
import HandS.Defaults
import HandS.MakeKwOnly
set_option Elab.async false
set_option linter.all false
set_option maxRecDepth 100000
/-! Defs that are called where no display of a container is under way (so repr of lists and tuples is known). -/
namespace Bp
open PySem PySem.Spec PyProof.Rows L2

/-- room, and no display under way -/
structure RoomG (k : Nat) (A : Around) : Prop where
  room : Room k A
  quiet : A.guards = some []
theorem RoomG.le {j k : Nat} {A : Around} (r : RoomG k A) (h : j ≤ k) : RoomG j A := ⟨r.room.mono h, r.quiet⟩
theorem RoomG.down {k : Nat} {A : Around} (r : RoomG (k + 1) A) (env : Env) : RoomG k (A.deeper env) := ⟨r.room.deeper env, r.quiet⟩

/-- a def's promise there -/
structure FnG (P : Program) (w : World) (K : PySem.W.Frag) (mg : Str → Option Value) (base : Heap) (CX : CXT) (k : Nat) (f : Addr) (fd : FuncData) (ps : List Str) (sp : Sp) : Prop where
  count : ∀ vs H Q E, sp vs H Q E → vs.length = ps.length
  goes : ∀ (A : Around) (outer : List Env) (s : Shared) (H : Hp) (args : Args) (us : List Value) (vs : List V) (Q : VK) (E : XK),
    RoomG k A → Env0 P w K mg base A outer s H → BindsTo s fd args (ps.zip us) → Vals vs us → sp vs H Q E →
      codeAny (model P w) A (.call (.ref f) args) (CR CX outer P w H s Q E) s
section
variable {P : Program} {w : World} {K : PySem.W.Frag} {mg : Str → Option Value} {base : Heap} {CX : CXT} {k : Nat} {f : Addr} {fd : FuncData} {ps : List Str} {sp : Sp}
/-- each def's promise holds there, too -/
theorem FnG.of (F : FnOk P w K mg base CX k f fd ps sp) : FnG P w K mg base CX k f fd ps sp :=
  ⟨F.len, fun A outer s H args us vs Q E r => F.run A outer s H args us vs Q E r.room⟩
theorem FnG.le {j : Nat} (F : FnG P w K mg base CX j f fd ps sp) (h : j ≤ k) : FnG P w K mg base CX k f fd ps sp :=
  ⟨F.count, fun A outer s H args us vs Q E r => F.goes A outer s H args us vs Q E (r.le h)⟩

/-- the rule: a def of the text by its body -/
theorem fnG_of {name qual : Str} {params : Arguments} {body : List Stmt} {scope : Scope} {dV kV doc pm cdv ct oc : Value} {an od : Option Addr} {osl : Array (Option Value)} {N : List Str}
    (there : K.lookup f = some ⟨oc, od, .func (PySem.W.fnOf name qual params body scope dV kV doc pm an cdv ct), osl⟩)
    (code : PySem.W.codeIn K cdv qual = true) (S : FnScope N ps scope) (count : ∀ vs H Q E, sp vs H Q E → vs.length = ps.length)
    (goes : ∀ (A : Around) (outer : List Env) (s : Shared) (H : Hp) (vs : List V) (Q : VK) (E : XK),
      RoomG k (A.deeper (envOfC qual scope s.heap.objs.size f cdv)) → sp vs H Q E →
        ∃ t, PSs (cxOf CX P w K mg base N qual scope f cdv A outer s H E) body t ∧ t { nx := fun _ H' => Q .non H', rt := Q } (start N vs) H) :
    FnG P w K mg base CX (k + 1) f (PySem.W.fnOf name qual params body scope dV kV doc pm an cdv ct) ps sp := by
  constructor
  · exact count
  · intro A outer s H args us vs Q E r e0 bind rv hsp
    have n := count _ _ _ _ hsp
    have old : ∀ b o, base.get? b = some o → s.heap.get? b = some o := fun b o e => (e0.bs b o e).1
    have inH : K.In s.heap := e0.mod.kin.keeps old
    have kinds : ∀ y ∈ ps.zip us, scope.names.lookup y.1 = some .local ∨
        (scope.names.lookup y.1 = some .cell ∧ ((cellsFrom (s.heap.objs.size + 1) scope.names []).lookup y.1).isSome = true) := by
      rintro ⟨x, v⟩ hy
      exact (S.par x (List.of_mem_zip hy).1).elim .inl fun q => .inr ⟨q, PySem.W.cellsFrom_some _ _ _ (.inl q)⟩
    refine codeAny_call_function r.room.depth (inH _ _ there) rfl S.co S.gen rfl (PySem.W.codeRec_of inH code) (bind _ _ _ _ ?_)
    refine wpAny_newFunctionEnv_cells S.kind kinds fun env he s1 x => ?_
    subst he
    refine ⟨(e0.mod.nolimit.keeps old).keeps x.toInCall.keep, codeAny_func ?_⟩
    obtain ⟨t, ht, hq⟩ := goes A outer s H vs Q E (r.down _) hsp
    have I := inv_start (CX := CX) (E := E) (cd := cdv) S r.room.hd e0 n rv x
    refine wpAny_mono (ht.run [] s1 (start N vs) H _ I hq) ?_ fun _ _ z => z
    intro fl s' z
    match fl, z with
    | .ret u, z =>
      obtain ⟨v, _, H', J, rv, q⟩ := z
      exact ⟨v, H', J.os, J.bare, J.base, J.hok, rv, q⟩
    | .next, z =>
      obtain ⟨_, H', J, q⟩ := z
      exact ⟨V.non, H', J.os, J.bare, J.base, J.hok, rfl, q⟩
    | .brk, z =>
      obtain ⟨_, _, _, q⟩ := z
      exact q.elim
    | .cont, z =>
      obtain ⟨_, _, _, q⟩ := z
      exact q.elim
end

section
variable {X : Cx} {CX : CXT} {k : Nat} {f : Addr} {fd : FuncData} {ps : List Str} {sp : Sp} {dvs : List V} {ds : List Value} {E : XK} {x : Str} {p pos : Pos} {e : Expr} {es : List Expr} {t : TA}
theorem go_fnG {pins : List (Addr × Obj)} {σ : L2.St} {H : Hp} {s : Shared} {Q : VK} {us : List Value} {vs : List V}
    (F : FnG X.prog X.w X.K X.mg X.base CX k f fd ps sp) (r : RoomG k X.A) (hb : Binds X.K fd ps ds) (hd : Vals dvs ds) (hx : Passes CX X E)
    (I : Inv X pins σ H s) (rv : Vals vs us) (h : sp (vs ++ dvs) H Q E) : wpAny (model X.prog X.w) X.A (call (.ref f) us) (EP X pins σ Q) X.xe s := by
  have both : Vals (vs ++ dvs) (us ++ ds) := rv.append hd
  have n : (us ++ ds).length = ps.length := both.length.symm.trans (F.count _ _ _ _ h)
  have run := F.goes X.A X.stack s H ⟨us, []⟩ (us ++ ds) (vs ++ dvs) Q E r I.env0 (hb s us I.kIn n) both h
  refine wpAny_call (codeAny_mono run ?_)
  intro res s' z
  match res, z with
  | .error er, z => exact hx pins σ H s er s' I z
  | .ok (.ret u), z => exact I.after z
  | .ok .next, z => exact z.elim
  | .ok .brk, z => exact z.elim
  | .ok .cont, z => exact z.elim
/-- f(e, ..) there -/
theorem pe_callG (F : FnG X.prog X.w X.K X.mg X.base CX k f fd ps sp) (r : RoomG k X.A) (hg : Gl X x) (hm : X.mg x = some (.ref f)) (kept : PySem.W.keepIn X.K (.ref f) = true)
    (hb : Binds X.K fd ps ds) (hd : Vals dvs ds) (hx : Passes CX X E) (ha : PA X (e :: es) t) (nd : (x == ("__debug__" : Str)) = false := by decide)
    (star : starEach (e :: es) X.env = (false, eval e X.env) :: starEach es X.env := by rfl) (plain : (backTo pos (starEach es X.env)).any (·.1) = false := by rfl) :
    PE X (.Call (.Name x p) (e :: es) [] pos) (tCall sp dvs E t) := by
  constructor
  intro pins s σ H Q I h
  apply wpAny_Call_Name_kw
  refine ld_glob I hg hm ?_ nd
  refine PySem.W.callWith_K (h₀ := X.base) I.ok.mod.kin kept ?_ star plain
  refine thn (ha.run pos pins s σ H _ I h) ?_
  rintro us s1 ⟨vs, H1, I1, rv, q⟩
  exact ⟨I1.kIn, go_fnG F r hb hd hx I1 rv q⟩
end

/-! ### the law's own call -/
/-- what is tracked where only the script is: nothing, or the script itself -/
def lone (a : Addr) (o : Obj) (xs : List V) (free : Bool) : Hp := fun b => if b = a ∧ free = true then some (.frz o (.lst xs)) else none
theorem lone_some {a b : Addr} {o : Obj} {xs : List V} {free : Bool} {u : HO} (h : lone a o xs free b = some u) : b = a ∧ free = true ∧ u = .frz o (.lst xs) := by
  unfold lone at h
  by_cases c : b = a ∧ free = true
  · rw [if_pos c] at h
    exact ⟨c.1, c.2, (Option.some.inj h).symm⟩
  · rw [if_neg c] at h
    cases h
theorem lone_only {a : Addr} {o : Obj} {xs : List V} {free : Bool} : Only (lone a o xs free) := fun b => by
  unfold lone
  by_cases c : b = a ∧ free = true
  · exact .inr ⟨o, xs, if_pos c⟩
  · exact .inl (if_neg c)
theorem lone_none {a b : Addr} {o : Obj} {xs : List V} {free : Bool} (h : ¬ (b = a ∧ free = true)) : lone a o xs free b = none := if_neg h

theorem callG {P : Program} {w : World} {K : PySem.W.Frag} {mg mb : Str → Option Value} {CX : CXT} {k : Nat} {fa a : Addr} {fd : FuncData} {x : Str} {sp : Sp} {s₁ : Shared} {vs : List Value} {ns : List Int}
    (KX : K.In s₁.heap) (hns : s₁.heap.Ns mainGlobals mg) (hb : s₁.heap.Ns builtinsNs mb) (names : ∀ x : Str, x ≠ "__name__" → mb x = bootBuiltins x) (wide : s₁.heap.NoLimit) (hg : s₁.gens = #[])
    (ha : s₁.heap.get? a = some { cls := .type "list", data := .seq vs.toArray }) (hi : IntsAre vs ns) (hl : ns.length ≤ sizeLine) (hr : RoomG k callerA)
    (F : ∀ base : Heap, K.In base → base.Ns mainGlobals mg → FnG P w K mg base CX k fa fd [x] sp) (bind : ∀ (s : Shared) (u : Value), BindsTo s fd ⟨[u], []⟩ [(x, u)])
    (asked : ∀ H : Hp, Only H → SqL K H a (ns.map V.int) → sp [.ref a] H (fun v _ => v = .bl true) fun _ _ _ => False)
    (none_out : ∀ H e s', CX [] H s₁ (fun _ _ _ => False) e s' → False) :
    codeAny (model P w) callerA (.call (.ref fa) ⟨[.ref a], []⟩) (fun r s' => r = .ok (.ret (.bool true)) ∧ OldK s₁.heap s'.heap ∧ s'.os = s₁.os ∧ AllBare s'.gens) s₁ := by
  have rv := vals_ints hi
  have size := hi.length
  have held : (ns.map V.int).length ≤ sizeLine := by rw [List.length_map]; exact hl
  -- the script is tracked where the module doesn't know it
  let script : Obj := { cls := .type "list", data := .seq vs.toArray }
  let free : Bool := (K.lookup a).isNone
  let H : Hp := lone a script (ns.map V.int) free
  have hok : HOk P w H s₁.heap := fun b u e => by
    obtain ⟨rfl, _, rfl⟩ := lone_some e
    exact ⟨ha, held, vs, _, rv, ha⟩
  have seq : SqL K H a (ns.map V.int) := by
    cases q : K.lookup a with
    | none =>
      exact .inl (.inr ⟨script, if_pos ⟨rfl, by show (K.lookup a).isNone = true; rw [q]; rfl⟩⟩)
    | some o =>
      have z := KX a o q
      rw [ha] at z
      cases z
      exact .inr ⟨_, vs.toArray, _, q, rfl, rfl, rfl, by rw [List.size_toArray, size]; exact hl, by simpa using rv⟩
  have offK : ∀ b o, K.lookup b = some o → H b = none := fun b o e => lone_none fun ⟨c1, c2⟩ => by
    rw [c1] at e
    have c3 : (K.lookup a).isNone = true := c2
    rw [e] at c3
    cases c3
  have offD : ∀ {b : Addr} {o : Obj} {es : Array DictEntry} {ep : Nat}, s₁.heap.get? b = some o → o.data = .dict es ep → H b = none := fun {b o es ep} e d => lone_none fun ⟨c1, _⟩ => by
    rw [c1, ha] at e
    cases e
    cases d
  have nsB : ∀ {b : Addr} {m : Str → Option Value}, s₁.heap.Ns b m → (hidT s₁.heap H).Ns b m := by
    rintro b m ⟨o, es, ep, e, d, r⟩
    exact ⟨o, es, ep, hidT_get e (offD e d), d, r⟩
  have inB : K.In (hidT s₁.heap H) := fun b o e => hidT_get (KX b o e) (offK b o e)
  obtain ⟨mc, w1, w2⟩ := wide
  have mod : Mod K mg (hidT s₁.heap H) := ⟨inB, nsB hns, ⟨mb, nsB hb, names⟩, ⟨mc, nsB w1, w2⟩⟩
  have none_in : ∀ b : Addr, b ∉ frs ([] : List Env) := fun b z => by
    have z' : b ∈ ([] : List Addr) := z
    cases z'
  have e0 : Env0 P w K mg (hidT s₁.heap H) callerA [] s₁ H :=
    { frames := rfl, mod := mod, bs := fun b o e => of_hidT e, bsz := Nat.le_of_eq (hidT_size _ _), funs := trivial, frf := fun b z => (none_in b z).elim, hok := hok, bare := .of_eq hg }
  have run := (F _ inB (nsB hns)).goes callerA [] s₁ H ⟨[.ref a], []⟩ [.ref a] [.ref a] _ _ hr e0 (bind s₁ (.ref a)) (.cons rfl .nil) (asked H lone_only seq)
  refine codeAny_mono run ?_
  intro r s' z
  match r, z with
  | .error er, z => exact (none_out H er s' z).elim
  | .ok .next, z => exact z.elim
  | .ok .brk, z => exact z.elim
  | .ok .cont, z => exact z.elim
  | .ok (.ret u), z =>
    obtain ⟨v, H', os, bare, un, hok', r', q⟩ := z
    cases (show v = .bl true from q)
    cases (show u = Value.bool true from r')
    refine ⟨rfl, OldK.of_keep fun b o e => ?_, os, bare⟩
    cases c : H b with
    | none => exact un.keep b o e c (none_in b) (by simp)
    | some u =>
      obtain ⟨rfl, _, rfl⟩ := lone_some c
      have after := hok' b _ (un.frzs b _ _ c)
      rw [ha] at e
      cases e
      exact after.1

/-- the goal that the head leaves, from the law's promise -/
theorem walkG {l : PySem.W.OpenLaw} {n k : Nat} {q : Program} {loose : List Str} {XP : (Str → Option Value) → Heap → Prop} {YP : World → Heap → Prop} {d : DefRec} {K : Params → PySem.W.Frag} {CX : World → CXT} {sp : World → Sp} {x : Str}
    (most : l.most = some n) (small : n ≤ sizeLine) (plain : d.params.defaults = []) (hr : RoomG k callerA) (inK : ∀ (w : World) (h : Heap), YP w h → (K w.params).In h)
    (F : ∀ (w : World) (mg : Str → Option Value) (fa : Addr) (h : Heap), (K w.params).In h → h.Ns mainGlobals mg → mg d.name = some (.ref fa) →
      ∃ fd : FuncData, (∀ (s : Shared) (u : Value), BindsTo s fd ⟨[u], []⟩ [(x, u)]) ∧
        ∀ base : Heap, (K w.params).In base → base.Ns mainGlobals mg → FnG l.prog w (K w.params) mg base (CX w) k fa fd [x] (sp w))
    (asked : ∀ (w : World) (H : Hp) (a : Addr) (ns : List Int), ns.length ≤ n → Only H → SqL (K w.params) H a (ns.map V.int) → sp w [.ref a] H (fun v _ => v = .bl true) fun _ _ _ => False)
    (none_out : ∀ (w : World) (H : Hp) (s : Shared) (e : Value) (s' : Shared), CX w [] H s (fun _ _ _ => False) e s' → False) :
    PySem.W.WalkO q loose XP YP l.row.toRowW d [] (fun f vs => PySem.call f vs) := by
  apply Att.attach_call most plain
  intro w s₀ s₁ mg mb fa o pm cd doc a vs ns G Y ho hd hcd hmg hobj hints hlen hg
  have KX := inK w _ Y
  obtain ⟨fd, bind, hF⟩ := F w mg fa _ KX G.T.g hmg
  refine callG KX G.T.g G.T.b G.T.builtins G.T.nolimit hg hobj hints (Nat.le_trans hlen small) hr hF bind ?_ ?_
  · intro H only seq
    exact asked w H a ns hlen only seq
  · intro H e s' z
    exact none_out w H s₁ e s' z
theorem roomG_caller {k : Nat} (r : Room k callerA) : RoomG k callerA := ⟨r, rfl⟩
end Bp
set_option Elab.async false
set_option linter.all false
set_option maxRecDepth 100000
/-! Texts as lists of codes; maps of signs as lists; what two ways of reckoning them have in common. -/
namespace Bp
open PySem

/-! ### texts -/
def tx (l : List Nat) : Str := ⟨l.toArray⟩
theorem tx_len (l : List Nat) : (tx l).length = l.length := by unfold tx Str.length; simp
theorem tx_list (l : List Nat) : (tx l).cps.toList = l := by unfold tx; simp
theorem tx_cps (z : Str) : tx z.cps.toList = z := by
  obtain ⟨a⟩ := z
  unfold tx
  simp
theorem tx_inj {a b : List Nat} (h : tx a = tx b) : a = b := by
  have e := congrArg (fun z : Str => z.cps.toList) h
  rw [← tx_list a, ← tx_list b]
  exact e
theorem tx_one (c : Nat) : (⟨#[c]⟩ : Str) = tx [c] := rfl
theorem tx_nil : ("" : Str) = tx [] := by decide
theorem str_ext {a b : Str} (h : a.cps.toList = b.cps.toList) : a = b := by
  rw [← tx_cps a, ← tx_cps b, h]
theorem append_list (a b : Str) : (a ++ b).cps.toList = a.cps.toList ++ b.cps.toList := by
  show (Str.append a b).cps.toList = _
  unfold Str.append
  simp
theorem tx_append (a b : List Nat) : tx a ++ tx b = tx (a ++ b) := str_ext (by rw [append_list, tx_list, tx_list, tx_list])
theorem foldl_empty (l : List Str) : ∀ acc : Array Nat, ((l.foldl (fun acc p => acc ++ (tx []).cps ++ p.cps) acc).toList) = acc.toList ++ (l.map fun p => p.cps.toList).flatten := by
  induction l with
  | nil => intro acc; simp
  | cons p l ih =>
    intro acc
    rw [List.foldl_cons, ih]
    unfold tx
    simp
/-- texts joined by nothing -/
theorem join_empty (l : List Str) : Txt.join (tx []) l = tx (l.map fun p => p.cps.toList).flatten := by
  apply str_ext
  rw [tx_list]
  show (Builtin.Str.glued (tx []) l).cps.toList = _
  unfold Builtin.Str.glued
  rw [foldl_empty]
  cases l with
  | nil => rfl
  | cons a l => rfl
theorem flatten_ones (cs : List Nat) : ((cs.map fun c => tx [c]).map fun p => p.cps.toList).flatten = cs := by
  induction cs with
  | nil => rfl
  | cons c cs ih =>
    rw [List.map_cons, List.map_cons, List.flatten_cons, ih, tx_list]
    rfl
theorem join_ones_tx (cs : List Nat) : Txt.join (tx []) (cs.map fun c => tx [c]) = tx cs := by rw [join_empty, flatten_ones]
theorem ones_weigh (cs : List Nat) : ((cs.map fun c => tx [c]).map (·.length)).sum = cs.length := by
  induction cs with
  | nil => rfl
  | cons c cs ih =>
    rw [List.map_cons, List.map_cons, List.sum_cons, ih, tx_len]
    show 1 + cs.length = cs.length + 1
    omega

/-- a text for each sign -/
def ones (l : List Nat) : List Str := l.map fun c => tx [c]
theorem ones_len (l : List Nat) : (ones l).length = l.length := List.length_map _
theorem ones_sum (l : List Nat) : ((ones l).map (·.length)).sum = l.length := ones_weigh l
theorem ones_join (l : List Nat) : Txt.join (tx []) (ones l) = tx l := join_ones_tx l
theorem ones_snoc (l : List Nat) (c : Nat) : ones (l ++ [c]) = ones l ++ [tx [c]] := by
  unfold ones
  rw [List.map_append]
  rfl

/-! ### the first place of a sign in a text -/
theorem occ_from (l : List Nat) (c : Nat) : ∀ (n i : Nat), i + n = l.length + 1 → (∀ j, j < i → l[j]? ≠ some c) → c ∈ l →
    (forIn (List.range' i n) ((#[] : Array Nat), 0) (StrLaws.occBody (tx l) (tx [c]) l.length 1)).run.fst.toList = [l.idxOf c] := by
  intro n
  have rest : ∀ (k : List Nat) (x : Nat) (f : Nat), (forIn k ((#[x] : Array Nat), f) (StrLaws.occBody (tx l) (tx [c]) l.length 1)).run.fst = #[x] := by
    intro k
    induction k with
    | nil => intro x f; rfl
    | cons a k ih =>
      intro x f
      rw [List.forIn_cons]
      unfold StrLaws.occBody
      rw [if_neg (by
        rintro ⟨⟨⟨h, _⟩, _⟩, _⟩
        simp at h)]
      exact ih x f
  induction n with
  | zero =>
    intro i hi no hc
    obtain ⟨j, hj⟩ := List.mem_iff_getElem?.mp hc
    have lt := (List.getElem?_eq_some_iff.mp hj).1
    exact absurd hj (no j (by omega))
  | succ n ih =>
    intro i hi no hc
    rw [List.range'_succ, List.forIn_cons]
    have one := StrLaws.subAt_one (tx l) c i
    rw [tx_list] at one
    have len : (tx l).length = l.length := tx_len l
    by_cases h : l[i]? = some c
    · obtain ⟨h1, h2⟩ := one.mpr h
      rw [len] at h1
      unfold StrLaws.occBody
      rw [if_pos ⟨⟨⟨by simp, Nat.zero_le _⟩, h1⟩, h2⟩]
      show (forIn (List.range' (i + 1) n) ((#[i] : Array Nat), i + (tx [c]).length) (StrLaws.occBody (tx l) (tx [c]) l.length 1)).run.fst.toList = _
      rw [rest]
      have e : l.idxOf c = i := by
        obtain ⟨lt, e⟩ := List.getElem?_eq_some_iff.mp h
        have le : l.idxOf c ≤ i := by
          rcases Nat.lt_or_ge i (l.idxOf c) with z | z
          · exact absurd e (by
              have := List.not_of_lt_findIdx (p := (· == c)) (xs := l) z
              simpa using this)
          · exact z
        rcases Nat.lt_or_ge (l.idxOf c) i with z | z
        · have hm : l.idxOf c < l.length := List.idxOf_lt_length_of_mem hc
          exact absurd (by rw [List.getElem?_eq_getElem hm, List.getElem_idxOf hm]) (no _ z)
        · omega
      rw [e]
    · have hn : ¬ (i + (tx [c]).length ≤ l.length ∧ Builtin.Str.subAt (tx l) (tx [c]) i = true) := fun z => h (one.mp (by rw [len]; exact z))
      unfold StrLaws.occBody
      rw [if_neg (fun z => hn ⟨z.1.2, z.2⟩)]
      refine ih (i + 1) (by omega) (fun j hj => ?_) hc
      rcases Nat.lt_or_ge j i with z | z
      · exact no j z
      · have : j = i := by omega
        rw [this]
        exact h
theorem occ_first {l : List Nat} {c : Nat} (h : c ∈ l) : Builtin.Str.occurrences (tx l) (tx [c]) 0 (tx l).length 1 = [l.idxOf c] := by
  rw [StrLaws.occ_eq, tx_len]
  exact occ_from l c (l.length + 1 - 0) 0 (by omega) (fun j hj => absurd hj (Nat.not_lt_zero _)) h
end Bp
set_option Elab.async false
set_option linter.all false
set_option maxRecDepth 100000
/-! Comprehensions that make texts of one sign each, and join them. -/
namespace Bp
open PySem PySem.Spec PyProof.Rows L2
theorem same_new {H : Hp} {p : Addr} {o : HO} (h : H p = none) : Same H (upd H p o) := fun b x e => by
  rw [upd_ne (ne_of_none e h)]
  exact e
/-- over any walk: res i is what is made behind i turns; the heap may grow -/
theorem lc_tx {J : It} {n : Nat} {Y : Nat → Hp → V → Hp → Prop} {g : TG} {tt : TT} {te : TE} {vs : List Nat} {σ : L2.St} {H : Hp} {D : Addr} {Qd : Hp → Prop}
    {G : Hp → Prop} (w : Walk J n G Y) (hG : ∀ H1, Same H H1 → G H1) (res : Nat → List Nat) (r0 : res 0 = []) (few : ∀ i, i ≤ n → (res i).length ≤ 1000) (nD : H D = none)
    (step : ∀ i x H1 H2 (Qy : V → Hp → Prop) (Qn : Hp → Prop), i < n → Same H H1 → Y i H1 x H2 → (∀ c H5, Same H1 H5 → res (i + 1) = res i ++ [c] → Qy (.str (tx [c])) H5) → (∀ H5, Same H1 H5 → res (i + 1) = res i → Qn H5) →
      g x (wipe σ vs) H2 fun σ2 H3 => wipe σ2 vs = wipe σ vs ∧ tt σ2 H3 fun b H4 => if b = true then te σ2 H4 Qy else Qn H4)
    (done : ∀ H', Same H H' → H' D = some (.lst ((ones (res n)).map V.str)) → Qd H') :
    ∃ W : Nat → Nat → Hp → Prop, (∃ m, W 0 m (upd H D (.lst []))) ∧ ∀ i m H, W i m H →
      (J.stop i H ∧ Qd H) ∨ (J.go i H ∧ ∃ Nx : Hp → Prop, (∀ H', Nx H' → ∃ m', m' < m ∧ W (i + 1) m' H') ∧ ∀ x H', J.yld i H x H' → g x (wipe σ vs) H' fun σ2 H2 => wipe σ2 vs = wipe σ vs ∧ tt σ2 H2 fun b H3 =>
        if b = true then te σ2 H3 fun y H4 => ∃ acc, H4 D = some (.lst acc) ∧ acc.length < sizeLine ∧ Nx (upd H4 D (.lst (acc ++ [y]))) else Nx H3) := by
  refine lc_it w (fun i H1 => Same H H1 ∧ H1 D = some (.lst ((ones (res i)).map V.str))) ⟨same_new nD, by rw [upd_same, r0]; rfl⟩ (fun i H1 _ z => hG H1 z.1) ?_ ?_
  · intro i x H1 H2 hi z y
    obtain ⟨sm, hD⟩ := z
    refine step i x H1 H2 _ _ hi sm y ?_ ?_
    · intro c H5 s5 e
      refine ⟨_, s5 _ _ hD, ?_, ?_, ?_⟩
      · rw [List.length_map, ones_len]
        exact small1000 (few i (Nat.le_of_lt hi))
      · exact fun b o q => by
          rw [upd_ne (ne_of_none q nD)]
          exact s5 _ _ (sm b o q)
      · rw [upd_same, e, ones_snoc, List.map_append]
        rfl
    · intro H5 s5 e
      exact ⟨sm.trans s5, by rw [e]; exact s5 _ _ hD⟩
  · rintro H1 ⟨sm, hD⟩
    exact done H1 sm hD
/-- no test: the item is kept -/
theorem yes_kept {σ : L2.St} {H : Hp} {A B : Hp → Prop} (h : A H) : tYes σ H fun b H4 => if b = true then A H4 else B H4 := by
  show if true = true then A H else B H
  rw [if_pos rfl]
  exact h
theorem yesOf {c : Bool} {A B : Prop} (hc : c = true) (h : A) : if c = true then A else B := by
  rw [if_pos hc]
  exact h
theorem noOf {c : Bool} {A B : Prop} (hc : c = false) (h : B) : if c = true then A else B := by
  rw [hc, if_neg Bool.false_ne_true]
  exact h
/-! ### lists of texts, and which of them is one -/
def txs (L : List (List Nat)) : List V := L.map fun m => V.str (tx m)
theorem txs_len (L : List (List Nat)) : (txs L).length = L.length := List.length_map _
theorem txs_get {L : List (List Nat)} {i : Nat} {m : List Nat} (h : L[i]? = some m) : (txs L)[i]? = some (.str (tx m)) := by
  unfold txs
  rw [List.getElem?_map, h]
  rfl
theorem txs_snoc (L : List (List Nat)) (m : List Nat) : txs (L ++ [m]) = txs L ++ [.str (tx m)] := by
  unfold txs
  rw [List.map_append]
  rfl
theorem txs_flat (L : List (List Nat)) : (txs L).all flatV = true := by
  unfold txs
  rw [List.all_map]
  exact List.all_eq_true.mpr fun _ _ => rfl
theorem eqV_tx (a b : List Nat) : eqV (.str (tx a)) (.str (tx b)) = decide (a = b) := by
  show (tx a == tx b) = _
  by_cases h : a = b
  · rw [h, decide_eq_true rfl]
    exact beq_self_eq_true _
  · rw [decide_eq_false h]
    exact beq_eq_false_iff_ne.mpr fun e => h (tx_inj e)
theorem inV_txs (m : List Nat) (L : List (List Nat)) : inV (.str (tx m)) (txs L) = decide (m ∈ L) := by
  unfold inV txs
  rw [List.any_map]
  by_cases h : m ∈ L
  · rw [decide_eq_true h]
    refine List.any_eq_true.mpr ⟨m, h, ?_⟩
    show eqV (.str (tx m)) (.str (tx m)) = true
    rw [eqV_tx]
    exact decide_eq_true rfl
  · rw [decide_eq_false h]
    refine List.any_eq_false.mpr fun x hx => ?_
    show ¬ eqV (.str (tx x)) (.str (tx m)) = true
    rw [eqV_tx]
    intro z
    exact h (of_decide_eq_true z ▸ hx)
theorem txs_at {m : List Nat} {L : List (List Nat)} (h : m ∈ L) : (txs L)[L.idxOf m]? = some (.str (tx m)) := by
  have lt := List.idxOf_lt_length_of_mem h
  exact txs_get (by rw [List.getElem?_eq_getElem lt, List.getElem_idxOf lt])
theorem txs_before {m : List Nat} {L : List (List Nat)} (i : Nat) (z : V) (hi : i < L.idxOf m) (e : (txs L)[i]? = some z) : eqV z (.str (tx m)) = false := by
  unfold txs at e
  rw [List.getElem?_map] at e
  cases q : L[i]? with
  | none =>
    rw [q] at e
    cases e
  | some x =>
    rw [q] at e
    cases e
    show eqV (.str (tx x)) (.str (tx m)) = false
    rw [eqV_tx]
    refine decide_eq_false fun z => ?_
    obtain ⟨lt, e2⟩ := List.getElem?_eq_some_iff.mp q
    have := List.not_of_lt_findIdx (p := (· == m)) (xs := L) hi
    rw [e2, z] at this
    simp at this
end Bp
set_option Elab.async false
set_option linter.all false
set_option maxRecDepth 100000
/-! Lists of texts and of numbers as data: whether two are equal. -/
namespace Bp
open PySem PySem.Spec PyProof.Rows L2
/-- small letters, each -/
def Low (l : List Nat) : Prop := ∀ c ∈ l, 97 ≤ c ∧ c ≤ 122
theorem canLay_texts {l : List (List Nat)} (h : ∀ m ∈ l, Low m) : PyData.canLayAll0 (l.map fun m => PyData.str (tx m)) = true := by
  induction l with
  | nil => rw [List.map_nil, PyData.canLayAll0]
  | cons m l ih =>
    rw [List.map_cons, PyData.canLayAll0, ih fun x hx => h x (List.mem_cons_of_mem _ hx), PyData.canLay0, Bool.and_true]
    have lm := h m (List.mem_cons_self ..)
    refine Array.all_eq_true_iff_forall_mem.mpr fun c hc => ?_
    have hc' : c ∈ m := by
      unfold tx at hc
      simpa using hc
    have := (lm c hc').2
    exact decide_eq_true (by omega)
theorem depth_texts (l : List (List Nat)) : PyData.depthAll (l.map fun m => PyData.str (tx m)) = 0 := by
  induction l with
  | nil => rw [List.map_nil, PyData.depthAll]
  | cons m l ih => rw [List.map_cons, PyData.depthAll, ih, PyData.depth]; rfl
theorem shaped_texts {l : List (List Nat)} (h : ∀ m ∈ l, Low m) : SeqAt.shaped (.list (l.map fun m => PyData.str (tx m))) = true := by
  unfold SeqAt.shaped
  rw [PyData.canLay0, canLay_texts h, PyData.depth, depth_texts, Bool.true_and]
  exact decide_eq_true (by decide)
theorem dp_texts {K : PySem.W.Frag} {H : Hp} {a : Addr} {l : List (List Nat)} (h : SqL K H a (l.map fun m => V.str (tx m))) : Dp K H (.ref a) (.list (l.map fun m => PyData.str (tx m))) := by
  refine .lst h ?_
  induction l with
  | nil => exact .nil
  | cons m l ih =>
    have all : ∀ l : List (List Nat), DpAll K H (l.map fun m => V.str (tx m)) (l.map fun m => PyData.str (tx m)) := by
      intro l
      induction l with
      | nil => exact .nil
      | cons m l ih => exact .cons (.str _) ih
    exact all _
theorem eqv_texts : ∀ (a b : List (List Nat)), PyData.eqvAll (a.map fun m => PyData.str (tx m)) (b.map fun m => PyData.str (tx m)) = decide (a = b)
  | [], [] => by rw [List.map_nil, PyData.eqvAll]; rfl
  | [], y :: b => by rw [List.map_nil, List.map_cons, PyData.eqvAll]; rfl
  | x :: a, [] => by rw [List.map_nil, List.map_cons, PyData.eqvAll]; rfl
  | x :: a, y :: b => by
    rw [List.map_cons, List.map_cons, PyData.eqvAll, eqv_texts a b, PyData.eqv]
    by_cases h : x = y
    · subst h
      by_cases h2 : a = b
      · subst h2
        simp
      · have : ¬ x :: a = x :: b := fun e => h2 (List.cons.inj e).2
        rw [decide_eq_false h2, decide_eq_false this, Bool.and_false]
    · have n1 : ¬ x :: a = y :: b := fun e => h (List.cons.inj e).1
      have n2 : (tx x == tx y) = false := beq_eq_false_iff_ne.mpr fun e => h (tx_inj e)
      rw [n2, decide_eq_false n1, Bool.false_and]
end Bp
set_option Elab.async false
set_option linter.all false
set_option maxRecDepth 100000
set_option maxHeartbeats 1000000
/-! Own exception classes straight over any built-in one, whose __init__ is walked as a def. -/
namespace Bp
open PySem PySem.Spec PyProof.Rows L2
section
open PySem.Builtin PySem.Builtin.ObjectAttr
variable {prog : Program} {w : World} {A : Around} {R : Result → Shared → Prop} {hp : Heap} {g : Array GenState} {d : Drawn} {t : Nat} {os : OsState} {B : String} {bm : List Value}
/-- self.name = v, where the exception has no dict as yet -/
theorem first_store {K : PySem.W.Frag} {name : Str} {tk : Tok} {v : Value} {x C : Addr} {fv : Array Value} {cd : ClassData} (SF : StoreFacts B bm "object.__setattr__" "object")
    (X : K.In hp) (hx : hp.get? x = some { cls := .ref C, data := .fields fv }) (hcd : PySem.W.clsIn K C = some cd) (mro : cd.mro = .ref C :: bm) (hasD : cd.hasDict = true) (no : PySem.W.findIn K (.ref C) name = some none)
    (hq : ∀ h' tk' dx, (∀ b o, b ≠ x → hp.get? b = some o → h'.get? b = some o) → hp.objs.size ≤ dx → dx ≠ x → h'.get? x = some { cls := .ref C, dict := some dx, data := .fields fv } →
      h'.Ns1 dx (fun y => if y = name then some v else none) → R (.ok (.ret .none)) ⟨h', g, d, tk', os⟩) :
    codeAny (model prog w) A (.call (.builtin "object.__setattr__") ⟨[.ref x, .str name tk, v], []⟩) R ⟨hp, g, d, t, os⟩ := by
  have I : PySem.W.InstAt hp x { cls := .ref C, data := .fields fv } C none := ⟨hx, rfl, rfl, trivial⟩
  have apart : x ≠ hp.objs.size := Nat.ne_of_lt (Heap.lt_size hx)
  have isObj : PySem.W.mroIn K C (.type "object") = some true := by
    unfold PySem.W.mroIn
    rw [hcd, Option.bind_some, mro, List.contains_cons, SF.hasOwner, Bool.or_true]
    rfl
  have sub : PySem.W.Looks (model prog w) hp (isInstance (.ref x) (.type "object")) true := I.type.andThen (PySem.W.looks_mroIn X isObj)
  have passes : refuseLoop (.ref x) "__setattr__" cd.mro = pure () := by
    rw [mro, refuseLoop_ref]
    exact SF.passes _
  have order : PySem.W.Looks (model prog w) hp (mroOf (.ref C)) cd.mro := (PySem.W.looks_clsIn X hcd).andThen .now
  have taker : PySem.W.Looks (model prog w) hp (storeTaker? none) none := .now
  have data : PySem.W.Looks (model prog w) hp (classData C) cd := PySem.W.looks_clsIn X hcd
  refine codeAny_call_builtin SF.slot.plain SF.entry ?_
  refine @PySem.W.check_slot (model prog w) _ _ ⟨hp, g, d, t, os⟩ "object.__setattr__" "object" "__setattr__"
    (.ref x) [.str name tk, v] [] _ SF.kind SF.split sub (SF.args (.ref x) (.str name tk) v) ?_
  rw [PySem.W.osa_eq, refuse_eq]
  refine wpAny_bind (wpAny_bind (I.type.at (wpAny_bind (order.at ?_))))
  rw [passes]
  refine wpAny_pure (wpAny_bind (I.type.at (wpAny_bind ((PySem.W.looks_findIn X no).at (wpAny_bind (taker.at ?_))))))
  show wpAny _ _ (storeInOwnDict (.ref x) (.ref C) (.str name tk) name v false) _ _ _
  obtain ⟨nm, bs, mr, ns, qn, hd, sn, sb, ab, col, del⟩ := cd
  cases (show hd = true from hasD)
  unfold storeInOwnDict ownDictForStores
  repeat
    first
    | with_reducible refine PySem.HandSPX.store_in_new ?_ ?_
    | with_reducible refine wpAny_loadPart_at hx ?_
    | with_reducible refine data.at ?_
    | wp_step
  · refine ⟨_, #[], _, (Heap.get?_update_ne _ _ _ _ apart.symm).trans (Heap.get?_push_at rfl rfl), rfl, fun e he => ?_, fun _ => rfl⟩
    simp at he
  · intro h' tk' ns' but
    have hx1 : (hp.push { cls := .type "dict", data := .dict #[] }).get? x = some { cls := .ref C, data := .fields fv } := Heap.get?_push_of_some _ hx
    refine hq h' tk' hp.objs.size (fun b o hb ho => ?_) (Nat.le_refl _) apart.symm ((but.2 x apart).trans (Heap.get?_update_self _ hx1 rfl)) ns'
    have h1 := Heap.get?_push_of_some { cls := .type "dict", data := .dict #[] } ho
    exact (but.2 b (Nat.ne_of_lt (Heap.lt_size ho))).trans ((Heap.get?_update_ne _ _ _ _ hb).trans h1)
end

/-- what the written part says of such a class: straight over the built-in one whose maker is newId and whose chain is bm -/
structure Oex (K : PySem.W.Frag) (C : Addr) (newId : String) (bm : List Value) : Prop where
  cls : ∃ nm q N bs sn sub ab col dd k0 k1 k2 k3 k5, K.lookup C = some (excClassObj nm q C N bs bm true sn sub ab col dd k0 k1 k2 k3 k5 newId)
  sa : PySem.W.findIn K (.ref C) "__setattr__" = some (some (.builtin "object.__setattr__"))
  exC : PySem.W.subIn K (.ref C) (.type "BaseException") = some true
  tyC : PySem.W.typeIn K (.ref C) = some (.type "type")
  kC : PySem.W.keepIn K (.ref C) = true
section
variable {X : Cx} {pins : List (Addr × Obj)} {σ : L2.St} {H : Hp} {s : Shared} {a C : Addr} {f : Str} {y : V} {u : Value} {Q : Unit → Shared → Prop} {E : Value → Shared → Prop} {A : Around} {B newId : String} {bm : List Value}
theorem keep_first (SF : StoreFacts B bm "object.__setattr__" "object") (T : Oex X.K C newId bm) (I : Inv X pins σ H s) (e : H a = some (exo a C none)) (no : PySem.W.findIn X.K (.ref C) f = some none) (ry : RelV y u)
    (h : ∀ dx s', H dx = none → dx ≠ a → Inv X pins σ (upd (upd H dx (exd dx [(f, y)])) a (exo a C (some dx))) s' → Q () s') : wpAny (model X.prog X.w) A (setAttr (.ref a) f u) Q E s := by
  obtain ⟨nm, q, N, bs, sn, sub, ab, col, dd, k0, k1, k2, k3, k5, hC⟩ := T.cls
  have hcl : PySem.W.clsIn X.K C = some ⟨nm, bs, .ref C :: bm, N, q, true, sn, sub, ab, col, false⟩ := by
    unfold PySem.W.clsIn
    rw [hC]
  obtain ⟨t1, at_⟩ := exo_at I.hok e
  obtain ⟨hp, g, d, t, os⟩ := s
  refine PySem.W.set_plain I.kIn (ox := ⟨.ref C, none, .fields #[.ref t1, .none, .none, .none, .bool false, .none], #[]⟩) (od := none) ⟨at_, rfl, rfl, trivial⟩ T.sa ?_
  refine first_store SF I.kIn at_ hcl rfl rfl no ?_
  intro h' tk' dx kept new apart there ns
  have free : H dx = none := I.hok.fresh new
  have old : ∀ {b : Addr} {o : Obj}, hp.get? b = some o → b ≠ dx := fun z => Nat.ne_of_lt (Nat.lt_of_lt_of_le (Heap.lt_size z) new)
  have notA : ∀ {b : Addr}, H b = none → b ≠ a := fun n z => by
    rw [z, e] at n
    cases n
  have same : ∀ {b : Addr} {o : HO}, H b = some o → b ≠ a → upd (upd H dx (exd dx [(f, y)])) a (exo a C (some dx)) b = some o := fun z n => by
    rw [upd_ne n, upd_ne (ne_of_none z free)]
    exact z
  have U : Un X.fs [] H (upd (upd H dx (exd dx [(f, y)])) a (exo a C (some dx))) hp h' := by
    refine ⟨fun b o z n _ _ => kept b o (notA n) z, fun b o z n _ _ => ⟨o.slots, kept b o (notA n) z⟩, fun b o z n _ => ?_, fun b o z _ => ?_, fun b xs z => same z (at_ne e z exo_tup), fun b o v z => same z (at_ne e z exo_frz), fun b ps z => ⟨#[], ?_⟩⟩
    · rw [upd_ne (notA n), upd_ne (old z)]
      exact n
    · by_cases c : b = a
      · rw [c]
        exact ⟨_, there⟩
      · exact ⟨o, kept b o c z⟩
    · rw [same z (at_ne e z exo_tbl)]
      simp
  refine h dx _ free apart (I.un (t' := tk') U ?_)
  intro b o z
  by_cases c : b = a
  · rw [c, upd_same] at z
    rw [c]
    cases z
    exact exo_ok there
  · rw [upd_ne c] at z
    by_cases c2 : b = dx
    · rw [c2, upd_same] at z
      rw [c2]
      cases z
      exact exd_ok ns (relO_put (fs := []) ry fun _ => trivial)
    · rw [upd_ne c2] at z
      refine (I.hok b o z).stay (fun b2 v hb2 z2 => kept b2 v ?_ z2) (fun b2 z2 => same z2 (at_ne e z2 exo_own)) (fun b2 xs z2 => same z2 (at_ne e z2 exo_tup))
      rcases hb2 with rfl | hb2
      · exact c
      · exact at_ne e hb2 exo_own
/-- self.f = e, the first store into such an exception -/
def tKeep (K : PySem.W.Frag) (newId : String) (bm : List Value) (f : Str) (to te : TE) : TS := fun D σ H => te σ H fun y H1 => to σ H1 fun x H2 => ∃ a C : Addr, x = .ref a ∧ Oex K C newId bm ∧ PySem.W.findIn K (.ref C) f = some none ∧
  H2 a = some (exo a C none) ∧ ∀ dx, H2 dx = none → dx ≠ a → D.nx σ (upd (upd H2 dx (exd dx [(f, y)])) a (exo a C (some dx)))
theorem ps_keep {o e : Expr} {to te : TE} {p' pos : Pos} (SF : StoreFacts B bm "object.__setattr__" "object") (ho : PE X o to) (he : PE X e te) (hs : swapsWith e (some (.Attribute o f p')) pos.line X.env = pure false := by rfl) :
    PS X (.Assign [.Attribute o f p'] e pos) (tKeep X.K newId bm f to te) := by
  constructor
  intro pins s σ H D I h
  refine plainObj_wpAny_Assign_Attribute (thn (he.run pins s σ H _ I h) ?_) hs
  rintro v s1 ⟨y, H1, I1, r1, q1⟩
  refine thn (ho.run pins s1 σ H1 _ I1 q1) ?_
  rintro w' s2 ⟨x, H2, I2, r2, a, C, rfl, T, no, ea, q⟩
  cases (show w' = Value.ref a from r2)
  exact keep_first SF T I2 ea no r1 fun dx s' n ne J => ⟨σ, _, J, q dx n ne⟩
/-- C(e, ..), C's own __init__ keeping sp -/
theorem pmk_keep {CX : CXT} {x : Str} {fI : Addr} {k : Nat} {fd : FuncData} {ps : List Str} {sp : Sp} {ds : List Value} {dvs : List V} {e : Expr} {es : List Expr} {ta : TA} {p pos : Pos} {initId : String} (F : ExcBaseFacts B newId initId bm)
    (T : Oex X.K C newId bm) (iC : PySem.W.findIn X.K (.ref C) "__init__" = some (some (.ref fI))) (tI : PySem.W.typeIn X.K (.ref fI) = some (.type "function")) (F1 : FnOk X.prog X.w X.K X.mg X.base CX k fI fd ps sp) (hr : Room (k + 1) X.A)
    (hb : Binds X.K fd ps ds) (hd : Vals dvs ds) (hx : Passes CX X (fun _ _ _ => False)) (hg : Gl X x) (hm : X.mg x = some (.ref C)) (ha : PA X (e :: es) ta) (hdb : (x == ("__debug__" : Str)) = false := by decide)
    (he : starEach (e :: es) X.env = (false, eval e X.env) :: starEach es X.env := by rfl) (hpl : (backTo pos (starEach es X.env)).any (·.1) = false := by rfl) : PMk X (.Call (.Name x p) (e :: es) [] pos) (tMkO C sp dvs ta) := by
  intro pins s σ H Q I h
  obtain ⟨nm, q, N, bs, sn, sub, ab, col, dd, k0, k1, k2, k3, k5, hC⟩ := T.cls
  apply wpAny_Call_Name_kw
  refine ld_glob I hg hm ?_ hdb
  refine PySem.W.callWith_K (h₀ := X.base) I.ok.mod.kin T.kC (thn (ha.run pos pins s σ H _ I h) ?_) he hpl
  rintro us s1 ⟨vs, H1, I1, r1, few, q1⟩
  refine ⟨I1.kIn, ?_⟩
  show wpAny _ _ (call (.ref C) us) _ _ _
  obtain ⟨hp, g, dr, tk, os⟩ := s1
  have le : hp.objs.size ≤ hp.objs.size + 1 := Nat.le_succ _
  have asked := q1 (hp.objs.size + 1) (I1.hok.fresh le)
  let hp2 : Heap := (hp.push (PySem.W.kdv_tup us)).push (PySem.HandSPX.excO C hp.objs.size)
  have kept : ∀ b o, hp.get? b = some o → hp2.get? b = some o := fun b o z => Heap.get?_push_of_some _ (Heap.get?_push_of_some _ z)
  have new : hp2.get? (hp.objs.size + 1) = some (PySem.HandSPX.excO C hp.objs.size) := by heap_get
  have I2 : Inv X pins σ (upd H1 (hp.objs.size + 1) (exo (hp.objs.size + 1) C none)) ⟨hp2, g, dr, tk, os⟩ := I1.laid (t' := tk) (a := hp.objs.size + 1) (o := exo (hp.objs.size + 1) C none) (h' := hp2) kept le (exo_ok new)
  have r2 : Vals (V.ref (hp.objs.size + 1) :: (vs ++ dvs)) (Value.ref (hp.objs.size + 1) :: (us ++ ds)) := .cons rfl (r1.append hd)
  have n : (Value.ref (hp.objs.size + 1) :: us ++ ds).length = ps.length := by
    have z := r2.length
    rw [F1.len _ _ _ _ asked] at z
    exact z.symm
  have small : us.length ≤ sizeLine := by
    rw [← Paired.length r1]
    exact Nat.le_of_lt (small1000 few)
  have run := F1.run _ X.stack _ _ ⟨Value.ref (hp.objs.size + 1) :: us, []⟩ (Value.ref (hp.objs.size + 1) :: (us ++ ds)) _ _ (fun _ _ _ => False) (hr.make C us []) (I2.env0.make C us []) (hb _ (Value.ref (hp.objs.size + 1) :: us) I2.kIn n) r2 asked
  refine wpAny_call (PySem.HandSPX.call_own F (fun _ => rfl) (I1.kIn _ _ hC) (PySem.W.looks_findIn I1.kIn iC) (fun self => PySem.W.bind_fn I1.kIn self tI) small (codeAny_mono run ?_))
  intro r s' z
  match r, z with
  | .error er, z => exact hx pins σ _ _ er s' I2 z
  | .ok .next, z => exact z.elim
  | .ok .brk, z => exact z.elim
  | .ok .cont, z => exact z.elim
  | .ok (.ret v'), z =>
    obtain ⟨v, H2, os2, bare2, un2, hok2, rv, rfl, d, fs, ea, ed, free, q2⟩ := z
    obtain ⟨h2, g2, d2, t2, os'⟩ := s'
    exact ⟨rv, mk_end (raises_own T.exC T.tyC) I1 le kept un2 hok2 os2 bare2 ea ed free q2⟩
end

/-! ### isinstance of the caught error and a built-in class above its own -/
theorem isinstance_own {prog : Program} {w : World} {A : Around} {E : Value → Shared → Prop} {s : Shared} {K : PySem.W.Frag} {x D : Addr} {o : Obj} {T : String} {Q : Value → Shared → Prop} (X : K.In s.heap) (hx : s.heap.get? x = some o) (hc : o.cls = .ref D)
    (ty : typeOf (.type T) = pure (.type "type")) (sub : PySem.W.subIn K (.ref D) (.type T) = some true) (h : Q (.bool true) s) : wpAny (model prog w) A (call (.builtin "isinstance") [.ref x, .type T]) Q E s := by
  apply call_isinstance_of
  · unfold Builtin.«isinstance.nested»
    have L : PySem.W.Looks (model prog w) s.heap (typeOf (.ref x)) (.ref D) := hc ▸ (PySem.W.Looks.ld hx).andThen .now
    refine wpAny_bind (L.here ?_)
    show wpAny _ _ (if (Value.ref D == Value.type T) = true then _ else _) _ _ s
    rw [if_neg (show ¬ ((Value.ref D == Value.type T) = true) from Bool.false_ne_true)]
    refine wpAny_bind (m := typeOf (.type T))
      (wpAny_of_eq ty ?_)
    show wpAny _ _ (if (Value.type "type" == Value.type "type") = true then _ else _) _ _ s
    rw [if_pos (by decide)]
    refine wpAny_bind (wpAny_bind (m := isType (.type T))
      (wpAny_pure (a := true) ?_))
    have L2 : PySem.W.Looks (model prog w) s.heap (isInstance (.ref x) (.type T)) true := L.andThen (PySem.W.looks_subIn X sub)
    refine wpAny_bind (L2.here ?_)
    exact wpAny_pure (wpAny_pure h)
  · intro z
    cases z
def rIsUp (a : Addr) (cls : Value) (K : PySem.W.Frag) : List V → Hp → VK → Prop := fun xs H Q => ∃ (D : Addr) (T : String), xs = [.ref a, .ty T] ∧ cls = .ref D ∧ typeOf (.type T) = pure (.type "type") ∧ PySem.W.subIn K (.ref D) (.type T) = some true ∧ Q (.bl true) H
theorem call_isUp {X : Cx} {a : Addr} {cls : Value} {d : Option Addr} {oe : Obj} {pn : List (Addr × Obj)} (hz : Zc cls d oe) : CallR (X.suite a ((a, oe) :: pn)) (.builtin "isinstance") (rIsUp a cls X.K) := by
  intro pins s σ H xs us Q I r h
  obtain ⟨D, T, rfl, rfl, ty, sub, q⟩ := h
  obtain ⟨u1, u2, rfl, r1, r2⟩ := vals2 r
  cases (show u1 = Value.ref a from r1)
  cases (show u2 = Value.type T from r2)
  obtain ⟨there, _⟩ := I.pin (a, oe) (List.mem_append.mpr (.inl (List.mem_cons_self ..)))
  exact isinstance_own I.kIn there hz.1 ty sub ⟨.bl true, H, I, rfl, q⟩
end Bp
set_option Elab.async false
set_option linter.all false
set_option maxRecDepth 100000
/-! A dict from which a law draws its digits: its cells, which one is next, what is left of a great one. -/
namespace Bp
open PySem PySem.Spec PyProof.Rows L2
theorem k_ca : ¬ (("cells" : Str) = "at") := by decide +kernel
theorem k_cl : ¬ (("cells" : Str) = "left") := by decide +kernel
theorem k_al : ¬ (("at" : Str) = "left") := by decide +kernel
def feedKvs (c : Addr) (a l : Int) : List (Key × V) := [(.inr "cells", .ref c), (.inr "at", .int a), (.inr "left", .int l)]
theorem inr_ne {x y : Str} (h : ¬ x = y) : ¬ (Sum.inr x : Key) = Sum.inr y := fun e => h (Sum.inr.inj e)
theorem feed_cells (c : Addr) (a l : Int) : valV (feedKvs c a l) (.inr "cells") = some (.ref c) := valV_pos rfl
theorem feed_at (c : Addr) (a l : Int) : valV (feedKvs c a l) (.inr "at") = some (.int a) := by
  unfold feedKvs
  rw [valV_neg (inr_ne k_ca), valV_pos rfl]
theorem feed_left (c : Addr) (a l : Int) : valV (feedKvs c a l) (.inr "left") = some (.int l) := by
  unfold feedKvs
  rw [valV_neg (inr_ne k_cl), valV_neg (inr_ne k_al), valV_pos rfl]
theorem feed_put_at (c : Addr) (a l b : Int) : putK (feedKvs c a l) (.inr "at") (.int b) = feedKvs c b l := by
  unfold putK
  rw [if_pos (by rw [valV_any, feed_at]; rfl)]
  unfold feedKvs
  simp only [List.map_cons, List.map_nil]
  rw [if_neg (inr_ne k_ca), if_pos True.intro, if_neg (inr_ne fun e => k_al e.symm)]
theorem feed_put_left (c : Addr) (a l b : Int) : putK (feedKvs c a l) (.inr "left") (.int b) = feedKvs c a b := by
  unfold putK
  rw [if_pos (by rw [valV_any, feed_left]; rfl)]
  unfold feedKvs
  simp only [List.map_cons, List.map_nil]
  rw [if_neg (inr_ne k_cl), if_neg (inr_ne k_al), if_pos True.intro]
theorem feed_made (c : Addr) (a l : Int) : mergeK [] (feedKvs c a l) = feedKvs c a l := by
  have e1 : putK ([] : List (Key × V)) (.inr "cells") (.ref c) = [(.inr "cells", .ref c)] := putK_new _ rfl
  have e2 : putK ([(.inr "cells", .ref c)] : List (Key × V)) (.inr "at") (.int a) = [(.inr "cells", .ref c), (.inr "at", .int a)] := putK_new _ (by rw [valV_neg (inr_ne k_ca)]; rfl)
  have e3 : putK ([(.inr "cells", .ref c), (.inr "at", .int a)] : List (Key × V)) (.inr "left") (.int l) = feedKvs c a l := putK_new _ (by rw [valV_neg (inr_ne k_cl), valV_neg (inr_ne k_al)]; rfl)
  show putK (putK (putK ([] : List (Key × V)) (.inr "cells") (.ref c)) (.inr "at") (.int a)) (.inr "left") (.int l) = _
  rw [e1, e2, e3]
/-- a feed at f, of which at most n cells have been drawn -/
structure Fed where
  f : Addr
  c : Addr
  ns : List Int
def FeedAt (K : PySem.W.Frag) (H : Hp) (g : Fed) (n : Nat) : Prop :=
  ∃ (a l : Int), H g.f = some (.dK (feedKvs g.c a l)) ∧ SqL K H g.c (g.ns.map V.int) ∧ 0 ≤ a ∧ a ≤ n ∧ 0 ≤ l
/-- all but what is at f is as it was -/
def Kept (f : Addr) (H H' : Hp) : Prop := ∀ b o, b ≠ f → H b = some o → H' b = some o
theorem Kept.refl (f : Addr) (H : Hp) : Kept f H H := fun _ _ _ e => e
theorem Kept.trans {f : Addr} {H H1 H2 : Hp} (a : Kept f H H1) (b : Kept f H1 H2) : Kept f H H2 := fun c o n e => b c o n (a c o n e)
theorem Kept.of {f : Addr} {H H1 : Hp} (a : Same H H1) : Kept f H H1 := fun b o _ e => a b o e
theorem Kept.put {f : Addr} {H : Hp} (o : HO) : Kept f H (upd H f o) := fun b u n e => by
  rw [upd_ne n]
  exact e
theorem Kept.seq {K : PySem.W.Frag} {f a : Addr} {H H1 : Hp} {kvs : List (Key × V)} {xs : List V} (k : Kept f H H1) (hf : H f = some (.dK kvs)) (h : SqL K H a xs) : SqL K H1 a xs := by
  rcases h with (h | ⟨o, h⟩) | h
  · exact .inl (.inl (k _ _ (ne_of h hf (by intro z; cases z)) h))
  · exact .inl (.inr ⟨o, k _ _ (ne_of h hf (by intro z; cases z)) h⟩)
  · exact .inr h
theorem FeedAt.le {K : PySem.W.Frag} {H : Hp} {g : Fed} {n m : Nat} (h : FeedAt K H g n) (le : n ≤ m) : FeedAt K H g m := by
  obtain ⟨a, l, e, s, h0, h1, h2⟩ := h
  exact ⟨a, l, e, s, h0, by omega, h2⟩
theorem FeedAt.same {K : PySem.W.Frag} {H H' : Hp} {g : Fed} {n : Nat} (h : FeedAt K H g n) (s : Same H H') : FeedAt K H' g n := by
  obtain ⟨a, l, e, q, h0, h1, h2⟩ := h
  exact ⟨a, l, s _ _ e, s.seq q, h0, h1, h2⟩
theorem FeedAt.dict {K : PySem.W.Frag} {H : Hp} {g : Fed} {n : Nat} (h : FeedAt K H g n) : ∃ kvs, H g.f = some (.dK kvs) := by
  obtain ⟨a, l, e, _⟩ := h
  exact ⟨_, e⟩
theorem FeedAt.ne {K : PySem.W.Frag} {H : Hp} {g : Fed} {b : Addr} {n : Nat} (h : FeedAt K H g n) (hb : H b = none) : b ≠ g.f := by
  obtain ⟨kvs, e⟩ := h.dict
  exact fun z => by
    rw [z, e] at hb
    cases hb
/-- it lives on where a thing made later is changed -/
theorem FeedAt.put {K : PySem.W.Frag} {H H0 : Hp} {g : Fed} {D : Addr} {n m : Nat} {o : HO} (h0 : FeedAt K H0 g m) (e : H0 D = none) (h : FeedAt K H g n) : FeedAt K (upd H D o) g n := by
  have nf := h0.ne e
  obtain ⟨a, l, ef, s, b0, b1, b2⟩ := h
  obtain ⟨_, _, _, s0, _⟩ := h0
  refine ⟨a, l, by rw [upd_ne (fun z => nf z.symm)]; exact ef, ?_, b0, b1, b2⟩
  rcases s with (s | ⟨o2, s⟩) | s
  · by_cases c : g.c = D
    · rcases s0 with (s0 | ⟨o2, s0⟩) | s0
      · rw [c, e] at s0
        cases s0
      · rw [c, e] at s0
        cases s0
      · exact .inr s0
    · exact .inl (.inl (by rw [upd_ne c]; exact s))
  · by_cases c : g.c = D
    · rcases s0 with (s0 | ⟨o2, s0⟩) | s0
      · rw [c, e] at s0
        cases s0
      · rw [c, e] at s0
        cases s0
      · exact .inr s0
    · exact .inl (.inr ⟨o2, by rw [upd_ne c]; exact s⟩)
  · exact .inr s
/-! ### lists of whole numbers as data -/
theorem dp_ints {K : PySem.W.Frag} {H : Hp} {a : Addr} {ns : List Int} (h : SqL K H a (ns.map V.int)) : Dp K H (.ref a) (.list (ns.map PyData.int)) := by
  have all : ∀ l : List Int, DpAll K H (l.map V.int) (l.map PyData.int) := by
    intro l
    induction l with
    | nil => exact .nil
    | cons m l ih => exact .cons (.int _) ih
  exact .lst h (all ns)
theorem lay_ints (ns : List Int) : PyData.canLayAll0 (ns.map PyData.int) = true := by
  induction ns with
  | nil => rw [List.map_nil, PyData.canLayAll0]
  | cons m l ih => rw [List.map_cons, PyData.canLayAll0, ih, PyData.canLay0]; rfl
theorem depth_ints (ns : List Int) : PyData.depthAll (ns.map PyData.int) = 0 := by
  induction ns with
  | nil => rw [List.map_nil, PyData.depthAll]
  | cons m l ih => rw [List.map_cons, PyData.depthAll, ih, PyData.depth]; rfl
theorem shaped_ints (ns : List Int) : SeqAt.shaped (.list (ns.map PyData.int)) = true := by
  unfold SeqAt.shaped
  rw [PyData.canLay0, lay_ints, PyData.depth, depth_ints, Bool.true_and]
  exact decide_eq_true (by decide)
theorem eqv_nil (ns : List Int) : PyData.eqv (.list (ns.map PyData.int)) (.list []) = decide (ns = []) := by
  cases ns with
  | nil => rw [List.map_nil, PyData.eqv, PyData.eqvAll]; rfl
  | cons m l => rw [List.map_cons, PyData.eqv, PyData.eqvAll]; rfl
theorem get_cells {H : Hp} {f c : Addr} {a l : Int} (e : H f = some (.dK (feedKvs c a l))) : DGet H f (.str "cells") (some (.ref c)) := feed_cells c a l ▸ DGet.k (k := Sum.inr "cells") e
theorem get_at {H : Hp} {f c : Addr} {a l : Int} (e : H f = some (.dK (feedKvs c a l))) : DGet H f (.str "at") (some (.int a)) := feed_at c a l ▸ DGet.k (k := Sum.inr "at") e
theorem get_left {H : Hp} {f c : Addr} {a l : Int} (e : H f = some (.dK (feedKvs c a l))) : DGet H f (.str "left") (some (.int l)) := feed_left c a l ▸ DGet.k (k := Sum.inr "left") e
theorem three_few (c : Addr) (a l : Int) : (feedKvs c a l).length < sizeLine := by show 3 < sizeLine; decide
theorem put_at {H : Hp} {f c : Addr} {a l b : Int} (e : H f = some (.dK (feedKvs c a l))) : DPut H f (.str "at") (.int b) (upd H f (.dK (feedKvs c b l))) := feed_put_at c a l b ▸ DPut.k (k := Sum.inr "at") e (three_few c a l)
theorem put_left {H : Hp} {f c : Addr} {a l b : Int} (e : H f = some (.dK (feedKvs c a l))) : DPut H f (.str "left") (.int b) (upd H f (.dK (feedKvs c a b))) := feed_put_left c a l b ▸ DPut.k (k := Sum.inr "left") e (three_few c a l)
end Bp
set_option Elab.async false
set_option linter.all false
set_option maxRecDepth 100000
/-! Comprehensions of any values over any walk, the heap growing. -/
namespace Bp
open PySem PySem.Spec PyProof.Rows L2
/-- all that is no list stays -/
def Kn (H H' : Hp) : Prop := ∀ b o, (∀ xs, o ≠ HO.lst xs) → H b = some o → H' b = some o
theorem Kn.of {H H' : Hp} (s : Same H H') : Kn H H' := fun b o _ e => s b o e
theorem Kn.refl (H : Hp) : Kn H H := fun _ _ _ e => e
theorem Kn.trans {H H1 H2 : Hp} (a : Kn H H1) (b : Kn H1 H2) : Kn H H2 := fun c o n e => b c o n (a c o n e)
theorem Kn.put {H : Hp} {D : Addr} {xs ys : List V} (e : H D = some (.lst xs)) : Kn H (upd H D (.lst ys)) := fun b o n eb => by
  have ne : b ≠ D := fun z => by
    rw [z, e] at eb
    exact n _ (Option.some.inj eb).symm
  rw [upd_ne ne]
  exact eb
theorem Kn.new {H : Hp} {D : Addr} {o : HO} (e : H D = none) : Kn H (upd H D o) := Kn.of (same_new e)
/-- res i is what is made behind i turns; it hangs on no list -/
theorem lc_v {J : It} {n : Nat} {Y : Nat → Hp → V → Hp → Prop} {g : TG} {tt : TT} {te : TE} {vs : List Nat} {σ : L2.St} {H : Hp} {D : Addr} {Qd : Hp → Prop}
    {G : Hp → Prop} (w : Walk J n G Y) (hG : ∀ H1, Same H H1 → G H1) (res : Nat → Hp → List V → Prop) (r0 : ∀ H1, res 0 H1 []) (few : ∀ i H1 l, i ≤ n → res i H1 l → l.length ≤ 1000) (keep : ∀ i H1 H2 l, Kn H1 H2 → res i H1 l → res i H2 l) (nD : H D = none)
    (step : ∀ i x H1 H2 l (Qy : V → Hp → Prop) (Qn : Hp → Prop), i < n → Same H H1 → res i H1 l → Y i H1 x H2 → (∀ y H5, Same H1 H5 → res (i + 1) H5 (l ++ [y]) → Qy y H5) → (∀ H5, Same H1 H5 → res (i + 1) H5 l → Qn H5) →
      g x (wipe σ vs) H2 fun σ2 H3 => wipe σ2 vs = wipe σ vs ∧ tt σ2 H3 fun b H4 => if b = true then te σ2 H4 Qy else Qn H4)
    (done : ∀ H' l, Same H H' → res n H' l → H' D = some (.lst l) → Qd H') :
    ∃ W : Nat → Nat → Hp → Prop, (∃ m, W 0 m (upd H D (.lst []))) ∧ ∀ i m H, W i m H →
      (J.stop i H ∧ Qd H) ∨ (J.go i H ∧ ∃ Nx : Hp → Prop, (∀ H', Nx H' → ∃ m', m' < m ∧ W (i + 1) m' H') ∧ ∀ x H', J.yld i H x H' → g x (wipe σ vs) H' fun σ2 H2 => wipe σ2 vs = wipe σ vs ∧ tt σ2 H2 fun b H3 =>
        if b = true then te σ2 H3 fun y H4 => ∃ acc, H4 D = some (.lst acc) ∧ acc.length < sizeLine ∧ Nx (upd H4 D (.lst (acc ++ [y]))) else Nx H3) := by
  refine lc_it w (fun i H1 => Same H H1 ∧ ∃ l, H1 D = some (.lst l) ∧ res i H1 l) ⟨same_new nD, [], upd_same, r0 _⟩ (fun i H1 _ z => hG H1 z.1) ?_ ?_
  · rintro i x H1 H2 hi ⟨sm, l, hD, hl⟩ y
    refine step i x H1 H2 l _ _ hi sm hl y ?_ ?_
    · intro v H5 s5 r5
      refine ⟨l, s5 _ _ hD, small1000 (few i _ _ (Nat.le_of_lt hi) hl), fun b o q => ?_, l ++ [v], upd_same, keep _ _ _ _ (Kn.put (s5 _ _ hD)) r5⟩
      rw [upd_ne (ne_of_none q nD)]
      exact s5 _ _ (sm b o q)
    · intro H5 s5 r5
      exact ⟨sm.trans s5, l, s5 _ _ hD, r5⟩
  · rintro H1 ⟨sm, l, hD, hl⟩
    exact done H1 l sm hl hD
/-- a comprehension of tests that all hold, for all(..) -/
theorem lc_true {J : It} {n : Nat} {Y : Nat → Hp → V → Hp → Prop} {g : TG} {te : TE} {vs : List Nat} {σ : L2.St} {H : Hp} {D : Addr} {Qd : Hp → Prop}
    {G : Hp → Prop} (w : Walk J n G Y) (hG : ∀ H1, Same H H1 → G H1) (few : n ≤ 1000) (nD : H D = none)
    (step : ∀ i x H1 H2 (Qy : V → Hp → Prop), i < n → Same H H1 → Y i H1 x H2 → (∀ H5, Same H1 H5 → Qy (.bl true) H5) → g x (wipe σ vs) H2 fun σ2 H3 => wipe σ2 vs = wipe σ vs ∧ te σ2 H3 Qy)
    (done : ∀ H', Same H H' → H' D = some (.lst ((List.replicate n true).map V.bl)) → Qd H')
    (mono : ∀ (v : V) (σ0 : L2.St) (H0 : Hp) (A B : L2.St → Hp → Prop), (∀ s h, A s h → B s h) → g v σ0 H0 A → g v σ0 H0 B) :
    ∃ W : Nat → Nat → Hp → Prop, (∃ m, W 0 m (upd H D (.lst []))) ∧ ∀ i m H, W i m H →
      (J.stop i H ∧ Qd H) ∨ (J.go i H ∧ ∃ Nx : Hp → Prop, (∀ H', Nx H' → ∃ m', m' < m ∧ W (i + 1) m' H') ∧ ∀ x H', J.yld i H x H' → g x (wipe σ vs) H' fun σ2 H2 => wipe σ2 vs = wipe σ vs ∧ tYes σ2 H2 fun b H3 =>
        if b = true then te σ2 H3 fun y H4 => ∃ acc, H4 D = some (.lst acc) ∧ acc.length < sizeLine ∧ Nx (upd H4 D (.lst (acc ++ [y]))) else Nx H3) := by
  refine lc_v w hG (fun i _ l => l = (List.replicate i true).map V.bl) (fun _ => rfl) (fun i _ l hi h => ?_) (fun _ _ _ _ _ h => h) nD ?_ ?_
  · rw [h, List.length_map, List.length_replicate]
    omega
  · intro i x H1 H2 l Qy Qn hi sm hl y qy _
    refine mono _ _ _ _ _ (fun s h z => ⟨z.1, yes_kept z.2⟩) (step i x H1 H2 Qy hi sm y fun H5 s5 => qy _ _ s5 ?_)
    rw [hl, List.replicate_succ', List.map_append]
    rfl
  · intro H' l sm hl hD
    exact done H' sm (hl ▸ hD)
theorem mono_name {i : Nat} : ∀ (v : V) (σ0 : L2.St) (H0 : Hp) (A B : L2.St → Hp → Prop), (∀ s h, A s h → B s h) → gName i v σ0 H0 A → gName i v σ0 H0 B := fun _ _ _ _ _ h z => h _ _ z
theorem all_true (n : Nat) : (List.replicate n true).all id = true := List.all_eq_true.mpr fun x hx => List.eq_of_mem_replicate hx
/-- any loop over a walk: B, what is asked of a turn -/
theorem walk_w {J : It} {n : Nat} {G : Hp → Prop} {Y : Nat → Hp → V → Hp → Prop} {H0 : Hp} {Qd : Hp → Prop} {B : (Hp → Prop) → V → Hp → Prop} (w : Walk J n G Y) (Pv : Nat → Hp → Prop) (h0 : Pv 0 H0) (hG : ∀ i H, i ≤ n → Pv i H → G H)
    (turn : ∀ i x H H', i < n → Pv i H → Y i H x H' → B (Pv (i + 1)) x H') (done : ∀ H, Pv n H → Qd H) :
    ∃ W : Nat → Nat → Hp → Prop, (∃ m, W 0 m H0) ∧ ∀ i m H, W i m H → (J.stop i H ∧ Qd H) ∨ (J.go i H ∧ ∃ Nx : Hp → Prop, (∀ H', Nx H' → ∃ m', m' < m ∧ W (i + 1) m' H') ∧ ∀ x H', J.yld i H x H' → B Nx x H') := by
  refine ⟨fun i m H => i + m = n ∧ Pv i H, ⟨n, Nat.zero_add n, h0⟩, ?_⟩
  rintro i m H ⟨im, p⟩
  have here := hG i H (by omega) p
  by_cases last : m = 0
  · obtain rfl : i = n := by omega
    exact .inl ⟨w.stops H here, done H p⟩
  · exact .inr ⟨w.goes i H (by omega) here, Pv (i + 1), fun H' p' => ⟨m - 1, by omega, by omega, p'⟩, fun x H' y => turn i x H H' (by omega) p (w.yields i H x H' (by omega) here y)⟩
/-! ### values one by one that stand for things -/
def Each {α : Type} (R : Hp → V → α → Prop) (H : Hp) (l : List V) (xs : List α) : Prop := l.length = xs.length ∧ ∀ (i : Nat) v x, l[i]? = some v → xs[i]? = some x → R H v x
section
variable {α : Type} {R : Hp → V → α → Prop} {H H' : Hp} {l m : List V} {xs ys : List α}
theorem Each.nil : Each R H [] [] := ⟨rfl, fun i v x h => by simp at h⟩
theorem Each.snoc (h : Each R H l xs) {v : V} {x : α} (r : R H v x) : Each R H (l ++ [v]) (xs ++ [x]) := by
  refine ⟨by rw [List.length_append, List.length_append, h.1]; rfl, fun i u y hu hy => ?_⟩
  rcases Nat.lt_or_ge i l.length with lt | ge
  · rw [List.getElem?_append_left lt] at hu
    rw [List.getElem?_append_left (by rw [← h.1]; exact lt)] at hy
    exact h.2 i u y hu hy
  · rw [List.getElem?_append_right ge] at hu
    rw [List.getElem?_append_right (by rw [← h.1]; exact ge)] at hy
    have i0 : i - l.length = 0 := by
      have := (List.getElem?_eq_some_iff.mp hu).1
      simp at this
      omega
    rw [i0] at hu
    rw [← h.1, i0] at hy
    cases hu
    cases hy
    exact r
theorem Each.imp (h : Each R H l xs) (f : ∀ v x, R H v x → R H' v x) : Each R H' l xs := ⟨h.1, fun i v x e1 e2 => f v x (h.2 i v x e1 e2)⟩
theorem Each.at_ (h : Each R H l xs) {i : Nat} {v : V} (e : l[i]? = some v) : ∃ x, xs[i]? = some x ∧ R H v x := by
  have lt : i < xs.length := by
    rw [← h.1]
    exact (List.getElem?_eq_some_iff.mp e).1
  exact ⟨xs[i], List.getElem?_eq_getElem lt, h.2 i v _ e (List.getElem?_eq_getElem lt)⟩
theorem Each.of (h : Each R H l xs) {i : Nat} {x : α} (e : xs[i]? = some x) : ∃ v, l[i]? = some v ∧ R H v x := by
  have lt : i < l.length := by
    rw [h.1]
    exact (List.getElem?_eq_some_iff.mp e).1
  exact ⟨l[i], List.getElem?_eq_getElem lt, h.2 i _ x (List.getElem?_eq_getElem lt) e⟩
end
end Bp
set_option Elab.async false
set_option linter.all false
/-! Where the text's defs stand. -/
namespace K78
open PySem L2
def topS (i : Nat) : Stmt := PySem.Challenge.pw_bandprint_k78_numbers_that_leave_rests.main.body.getD i (.Pass ⟨0, 0, 0, 0⟩)
abbrev s_inverse : Stmt := topS 2
abbrev s_least_with : Stmt := topS 3
abbrev s_law_feed : Stmt := topS 5
abbrev s_law_draw : Stmt := topS 6
abbrev s_law_pick : Stmt := topS 7
abbrev s_law_gcd : Stmt := topS 8
abbrev s_law_turn : Stmt := topS 9
abbrev s_law_all_apart : Stmt := topS 10
abbrev s_law : Stmt := topS 11
end K78
/-! Numbers that leave rests: the mathematics. -/
set_option linter.all false
namespace K78
/-- the least common multiple of all -/
def lcmL : List Nat → Nat
  | [] => 1
  | t :: ts => Nat.lcm t (lcmL ts)
theorem gcd_mul_gcd (d b c : Nat) : Nat.gcd d b * Nat.gcd d c = Nat.gcd (Nat.gcd (d * d) (b * d)) (Nat.gcd (d * c) (b * c)) := by
  rw [Nat.gcd_mul_right, Nat.gcd_mul_right, Nat.gcd_mul_left]
theorem dvd_of_lcm {d b c : Nat} (hb : 0 < b) (h : d ∣ Nat.lcm b c) : d ∣ Nat.lcm (Nat.gcd d b) (Nat.gcd d c) := by
  have e1 : Nat.gcd (Nat.gcd d b) (Nat.gcd d c) = Nat.gcd d (Nat.gcd b c) := by
    apply Nat.dvd_antisymm
    · exact Nat.dvd_gcd (Nat.dvd_trans (Nat.gcd_dvd_left _ _) (Nat.gcd_dvd_left _ _)) (Nat.dvd_gcd (Nat.dvd_trans (Nat.gcd_dvd_left _ _) (Nat.gcd_dvd_right _ _)) (Nat.dvd_trans (Nat.gcd_dvd_right _ _) (Nat.gcd_dvd_right _ _)))
    · exact Nat.dvd_gcd (Nat.dvd_gcd (Nat.gcd_dvd_left _ _) (Nat.dvd_trans (Nat.gcd_dvd_right _ _) (Nat.gcd_dvd_left _ _))) (Nat.dvd_gcd (Nat.gcd_dvd_left _ _) (Nat.dvd_trans (Nat.gcd_dvd_right _ _) (Nat.gcd_dvd_right _ _)))
  have gpos : 0 < Nat.gcd d (Nat.gcd b c) := Nat.gcd_pos_of_pos_right _ (Nat.gcd_pos_of_pos_left _ hb)
  have e2 : Nat.gcd (Nat.gcd d b) (Nat.gcd d c) * Nat.lcm (Nat.gcd d b) (Nat.gcd d c) = Nat.gcd d b * Nat.gcd d c := Nat.gcd_mul_lcm _ _
  have e3 : d * Nat.gcd d (Nat.gcd b c) ∣ Nat.gcd d b * Nat.gcd d c := by
    rw [gcd_mul_gcd]
    have k1 : Nat.gcd d (Nat.gcd b c) ∣ d := Nat.gcd_dvd_left _ _
    have k2 : Nat.gcd d (Nat.gcd b c) ∣ b := Nat.dvd_trans (Nat.gcd_dvd_right _ _) (Nat.gcd_dvd_left _ _)
    have k3 : Nat.gcd d (Nat.gcd b c) ∣ c := Nat.dvd_trans (Nat.gcd_dvd_right _ _) (Nat.gcd_dvd_right _ _)
    refine Nat.dvd_gcd (Nat.dvd_gcd (Nat.mul_dvd_mul_left d k1) ?_) (Nat.dvd_gcd (Nat.mul_dvd_mul_left d k3) ?_)
    · rw [Nat.mul_comm b d]
      exact Nat.mul_dvd_mul_left d k2
    · have h1 : d * Nat.gcd b c ∣ Nat.lcm b c * Nat.gcd b c := Nat.mul_dvd_mul_right h _
      rw [Nat.mul_comm (Nat.lcm b c), Nat.gcd_mul_lcm] at h1
      exact Nat.dvd_trans (Nat.mul_dvd_mul_left d (Nat.gcd_dvd_right _ _)) h1
  rw [← e2, e1, Nat.mul_comm d] at e3
  exact Nat.dvd_of_mul_dvd_mul_left gpos e3
/-- the common divisor with a common multiple is made of those with each -/
theorem gcd_lcmL (l : Nat) (x : Int) : ∀ (ts : List Nat), (∀ t ∈ ts, 0 < t) → (∀ t ∈ ts, (Nat.gcd l t : Int) ∣ x) → (Nat.gcd (lcmL ts) l : Int) ∣ x
  | [], _, _ => by
    show ((Nat.gcd 1 l : Nat) : Int) ∣ x
    rw [Nat.gcd_one_left]
    exact Int.one_dvd x
  | t :: ts, hp, hd => by
    have ih := gcd_lcmL l x ts (fun u hu => hp u (List.mem_cons_of_mem _ hu)) (fun u hu => hd u (List.mem_cons_of_mem _ hu))
    have h1 := hd t (List.mem_cons_self ..)
    have t0 := hp t (List.mem_cons_self ..)
    show ((Nat.gcd (Nat.lcm t (lcmL ts)) l : Nat) : Int) ∣ x
    rw [Int.ofNat_dvd_left] at ih h1 ⊢
    have key : Nat.gcd (Nat.lcm t (lcmL ts)) l ∣ Nat.lcm (Nat.gcd (Nat.gcd (Nat.lcm t (lcmL ts)) l) t) (Nat.gcd (Nat.gcd (Nat.lcm t (lcmL ts)) l) (lcmL ts)) := dvd_of_lcm t0 (Nat.gcd_dvd_left _ _)
    refine Nat.dvd_trans key (Nat.lcm_dvd ?_ ?_)
    · refine Nat.dvd_trans (Nat.dvd_gcd (Nat.dvd_trans (Nat.gcd_dvd_left _ _) (Nat.gcd_dvd_right _ _)) (Nat.gcd_dvd_right _ _)) h1
    · refine Nat.dvd_trans (Nat.dvd_gcd (Nat.gcd_dvd_right _ _) (Nat.dvd_trans (Nat.gcd_dvd_left _ _) (Nat.gcd_dvd_right _ _))) ih
theorem lcmL_pos : ∀ {ts : List Nat}, (∀ t ∈ ts, 0 < t) → 0 < lcmL ts
  | [], _ => by decide
  | t :: ts, h => Nat.lcm_pos (h t (List.mem_cons_self ..)) (lcmL_pos fun u hu => h u (List.mem_cons_of_mem _ hu))
theorem lcm_swap (a b c : Nat) : Nat.lcm a (Nat.lcm b c) = Nat.lcm b (Nat.lcm a c) := by rw [← Nat.lcm_assoc, Nat.lcm_comm a b, Nat.lcm_assoc]
theorem lcmL_snoc (t : Nat) : ∀ (ts : List Nat), lcmL (ts ++ [t]) = Nat.lcm (lcmL ts) t
  | [] => by
    show Nat.lcm t 1 = Nat.lcm 1 t
    exact Nat.lcm_comm _ _
  | u :: ts => by
    show Nat.lcm u (lcmL (ts ++ [t])) = Nat.lcm (Nat.lcm u (lcmL ts)) t
    rw [lcmL_snoc t ts, Nat.lcm_assoc]
theorem dvd_lcmL : ∀ {ts : List Nat} {t : Nat}, t ∈ ts → t ∣ lcmL ts
  | u :: ts, t, h => by
    rcases List.mem_cons.mp h with rfl | h
    · exact Nat.dvd_lcm_left _ _
    · exact Nat.dvd_trans (dvd_lcmL h) (Nat.dvd_lcm_right _ _)
theorem lcmL_le {b : Nat} : ∀ {ts : List Nat}, (∀ t ∈ ts, 0 < t ∧ t ≤ b) → lcmL ts ≤ b ^ ts.length
  | [], _ => by show 1 ≤ b ^ 0; rw [Nat.pow_zero]; exact Nat.le_refl _
  | t :: ts, h => by
    have h1 := h t (List.mem_cons_self ..)
    have ih := lcmL_le fun u hu => h u (List.mem_cons_of_mem t hu)
    have p := lcmL_pos (ts := ts) fun u hu => (h u (List.mem_cons_of_mem t hu)).1
    show Nat.lcm t (lcmL ts) ≤ b ^ (ts.length + 1)
    rw [Nat.pow_succ, Nat.mul_comm]
    exact Nat.le_trans (Nat.le_of_dvd (Nat.mul_pos h1.1 p) (Nat.lcm_dvd_mul _ _)) (Nat.mul_le_mul h1.2 ih)
/-! ### turning a number back -/
/-- what one turn keeps: worths times the number are alike to the rests -/
structure Inv (n m : Int) (e h : Nat) (w u : Int) : Prop where
  we : m ∣ w * n - e
  uh : m ∣ u * n - h
theorem Inv.step {n m : Int} {e h : Nat} {w u : Int} (i : Inv n m e h w u) (hp : 0 < h) : Inv n m h (e % h) u (w - (e / h : Nat) * u) := by
  refine ⟨i.uh, ?_⟩
  have q : ((e % h : Nat) : Int) = e - (e / h : Nat) * h := by
    have := Nat.mod_add_div e h
    have e2 : ((e % h : Nat) : Int) + h * (e / h : Nat) = e := by exact_mod_cast this
    rw [Int.mul_comm] at e2
    omega
  have : (w - ((e / h : Nat) : Int) * u) * n - ((e % h : Nat) : Int) = (w * n - e) - ((e / h : Nat) : Int) * (u * n - h) := by
    rw [q, Int.sub_mul, Int.mul_sub, Int.mul_assoc]
    omega
  rw [this]
  exact Int.dvd_sub i.we (Int.dvd_trans i.uh (Int.dvd_mul_left _ _))
/-! ### the least number -/
/-- how far one has come: rest leaves all rests so far, many is the least common multiple -/
def Leaves (rest : Int) (rs ts : List Nat) : Prop := ∀ (i : Nat) (r t : Nat), rs[i]? = some r → ts[i]? = some t → (t : Int) ∣ rest - r
theorem Leaves.nil (rest : Int) : Leaves rest [] [] := fun i r t h => by simp at h
/-- two rests that no number leaves -/
def Apart (rs ts : List Nat) : Prop := ∃ (i j r s t u : Nat), j < i ∧ rs[i]? = some r ∧ rs[j]? = some s ∧ ts[i]? = some t ∧ ts[j]? = some u ∧ ¬ ((Nat.gcd t u : Nat) : Int) ∣ (r : Int) - s
theorem Leaves.not_apart {rest : Int} {rs ts : List Nat} (h : Leaves rest rs ts) : ¬ Apart rs ts := by
  rintro ⟨i, j, r, s, t, u, _, h1, h2, h3, h4, n⟩
  refine n ?_
  have a := Int.dvd_trans (Int.natCast_dvd_natCast.mpr (Nat.gcd_dvd_left t u)) (h i r t h1 h3)
  have b := Int.dvd_trans (Int.natCast_dvd_natCast.mpr (Nat.gcd_dvd_right t u)) (h j s u h2 h4)
  have e : (r : Int) - s = (rest - s) - (rest - r) := by omega
  rw [e]
  exact Int.dvd_sub b a
/-- where the next rest doesn't go, two are apart -/
theorem apart_next {rest : Int} {rs ts : List Nat} {r t k : Nat} (h : Leaves rest (rs.take k) (ts.take k)) (hp : ∀ t ∈ ts, 0 < t) (len : rs.length = ts.length) (er : rs[k]? = some r) (et : ts[k]? = some t) (n : ¬ ((Nat.gcd (lcmL (ts.take k)) t : Nat) : Int) ∣ (r : Int) - rest) : Apart rs ts := by
  apply Classical.byContradiction
  intro na
  refine n (gcd_lcmL t _ _ (fun u hu => hp u (List.mem_of_mem_take hu)) fun u hu => ?_)
  obtain ⟨j, hj⟩ := List.mem_iff_getElem?.mp hu
  have jk : j < k := by
    have := (List.getElem?_eq_some_iff.mp hj).1
    rw [List.length_take] at this
    omega
  have hj2 : ts[j]? = some u := by rw [List.getElem?_take_of_lt jk] at hj; exact hj
  have jl : j < rs.length := by rw [len]; exact (List.getElem?_eq_some_iff.mp hj2).1
  have hs : rs[j]? = some rs[j] := List.getElem?_eq_getElem jl
  have l := h j rs[j] u (by rw [List.getElem?_take_of_lt jk]; exact hs) hj
  have g : ((Nat.gcd t u : Nat) : Int) ∣ (r : Int) - rs[j] := by
    apply Classical.byContradiction
    intro z
    exact na ⟨k, j, r, rs[j], t, u, jk, er, hs, et, hj2, z⟩
  have e : (r : Int) - rest = (r - rs[j]) - (rest - rs[j]) := by omega
  rw [e]
  exact Int.dvd_sub g (Int.dvd_trans (Int.natCast_dvd_natCast.mpr (Nat.gcd_dvd_right t u)) l)
/-- one turn -/
theorem leaves_next {rest : Int} {rs ts : List Nat} {r t k : Nat} {inv : Int} (h : Leaves rest (rs.take k) (ts.take k)) (t0 : 0 < t) (er : rs[k]? = some r) (et : ts[k]? = some t) (dv : ((Nat.gcd (lcmL (ts.take k)) t : Nat) : Int) ∣ (r : Int) - rest)
    (hi : ((t / Nat.gcd (lcmL (ts.take k)) t : Nat) : Int) ∣ ((lcmL (ts.take k) / Nat.gcd (lcmL (ts.take k)) t : Nat) : Int) * inv - 1) :
    Leaves (rest + (lcmL (ts.take k) : Int) * (((r : Int) - rest) / ((Nat.gcd (lcmL (ts.take k)) t : Nat) : Int) * inv % ((t / Nat.gcd (lcmL (ts.take k)) t : Nat) : Int))) (rs.take (k + 1)) (ts.take (k + 1)) := by
  have dM : ∀ u ∈ ts.take k, (u : Int) ∣ (lcmL (ts.take k) : Int) := fun u hu => Int.natCast_dvd_natCast.mpr (dvd_lcmL hu)
  generalize hM : lcmL (ts.take k) = M at *
  have gp : 0 < Nat.gcd M t := Nat.gcd_pos_of_pos_right _ t0
  generalize hg : Nat.gcd M t = g at *
  have gM : g ∣ M := hg ▸ Nat.gcd_dvd_left _ _
  have gt : g ∣ t := hg ▸ Nat.gcd_dvd_right _ _
  obtain ⟨a, rfl⟩ := gM
  obtain ⟨b, rfl⟩ := gt
  rw [Nat.mul_div_cancel_left _ gp] at hi
  rw [Nat.mul_div_cancel_left _ gp] at hi ⊢
  obtain ⟨d, hd⟩ := dv
  have g1 : (g : Int) ≠ 0 := by omega
  rw [hd, Int.mul_ediv_cancel_left _ g1]
  intro i r' t' hr ht
  rcases Nat.lt_or_ge i k with lt | ge
  · rw [List.getElem?_take_of_lt (by omega)] at hr ht
    have l := h i r' t' (by rw [List.getElem?_take_of_lt lt]; exact hr) (by rw [List.getElem?_take_of_lt lt]; exact ht)
    have m := dM t' (List.mem_iff_getElem?.mpr ⟨i, by rw [List.getElem?_take_of_lt lt]; exact ht⟩)
    have e : ∀ x : Int, rest + x - r' = (rest - r') + x := fun x => by omega
    rw [e]
    exact Int.dvd_add l (Int.dvd_trans m (Int.dvd_mul_right _ _))
  · have ik : i = k := by
      have := (List.getElem?_eq_some_iff.mp hr).1
      rw [List.length_take] at this
      omega
    subst ik
    rw [List.getElem?_take_of_lt (by omega), er] at hr
    rw [List.getElem?_take_of_lt (by omega), et] at ht
    cases hr
    cases ht
    -- g a x = g d, modulo g b
    have hx : ∃ y, d * inv % (b : Int) = d * inv - b * y := ⟨d * inv / b, by rw [Int.emod_def]⟩
    obtain ⟨y, hy⟩ := hx
    obtain ⟨z, hz⟩ := hi
    refine ⟨d * z - a * y, ?_⟩
    have h3 : (r : Int) = rest + g * d := by omega
    rw [hy, h3]
    push_cast
    have e1 : (g : Int) * a * (d * inv - b * y) = g * (d * (a * inv)) - g * (a * (b * y)) := by
      rw [Int.mul_sub, Int.mul_assoc, Int.mul_assoc, Int.mul_left_comm (a : Int) d inv]
    have e2 : (a : Int) * inv = b * z + 1 := by omega
    have e3 : (g : Int) * b * (d * z - a * y) = g * (d * (b * z)) - g * (a * (b * y)) := by
      rw [Int.mul_sub, Int.mul_assoc, Int.mul_assoc, Int.mul_left_comm (b : Int) d z, Int.mul_left_comm (b : Int) a y]
    rw [e1, e3, e2, Int.mul_add, Int.mul_add, Int.mul_one]
    omega
theorem lcm_next (M t : Nat) : M * (t / Nat.gcd M t) = Nat.lcm M t := by
  rw [Nat.lcm, Nat.mul_div_assoc _ (Nat.gcd_dvd_right M t)]
/-- what is told: at or behind the least, less than a common multiple behind, and it leaves all rests -/
theorem told_ok {rest least : Int} {rs ts : List Nat} (h : Leaves rest rs ts) (hp : ∀ t ∈ ts, 0 < t) (hr : ∀ (i r t : Nat), rs[i]? = some r → ts[i]? = some t → r < t) (len : rs.length = ts.length) :
    (∀ (i r t : Nat), rs[i]? = some r → ts[i]? = some t → (least + (rest - least) % (lcmL ts : Int)) % (t : Int) = r) ∧ least ≤ least + (rest - least) % (lcmL ts : Int) ∧ least + (rest - least) % (lcmL ts : Int) < least + lcmL ts := by
  have p := lcmL_pos hp
  have m0 := Int.emod_nonneg (rest - least) (b := (lcmL ts : Int)) (by omega)
  have m1 := Int.emod_lt_of_pos (rest - least) (b := (lcmL ts : Int)) (by omega)
  refine ⟨fun i r t er et => ?_, by omega, by omega⟩
  have t0 := hp t (List.mem_of_getElem? et)
  have lt := hr i r t er et
  have d1 := h i r t er et
  have d2 : (t : Int) ∣ (lcmL ts : Int) := Int.natCast_dvd_natCast.mpr (dvd_lcmL (List.mem_of_getElem? et))
  have e : least + (rest - least) % (lcmL ts : Int) = r + ((rest - r) - lcmL ts * ((rest - least) / lcmL ts)) := by
    rw [Int.emod_def]
    omega
  obtain ⟨y, hy⟩ := Int.dvd_sub d1 (Int.dvd_trans d2 (Int.dvd_mul_right (lcmL ts : Int) ((rest - least) / lcmL ts)))
  rw [e, hy, Int.add_mul_emod_self_left]
  exact Int.emod_eq_of_lt (by omega) (by omega)
end K78
namespace K78
theorem lcmL_dvd {x : Int} : ∀ {ts : List Nat}, (∀ t ∈ ts, (t : Int) ∣ x) → ((lcmL ts : Nat) : Int) ∣ x
  | [], _ => Int.one_dvd x
  | t :: ts, h => by
    have a := h t (List.mem_cons_self ..)
    have b := lcmL_dvd fun u hu => h u (List.mem_cons_of_mem t hu)
    rw [Int.ofNat_dvd_left] at a b ⊢
    exact Nat.lcm_dvd a b
/-- one number alone is told -/
theorem same_told {a b s : Int} {rs ts : List Nat} (len : rs.length = ts.length) (ha : Leaves a rs ts) (hb : Leaves b rs ts) : (a - s) % (lcmL ts : Int) = (b - s) % (lcmL ts : Int) := by
  have d : ((lcmL ts : Nat) : Int) ∣ a - b := lcmL_dvd fun t ht => by
    obtain ⟨i, hi⟩ := List.mem_iff_getElem?.mp ht
    have il : i < rs.length := by rw [len]; exact (List.getElem?_eq_some_iff.mp hi).1
    have e : a - b = (a - rs[i]) - (b - rs[i]) := by omega
    rw [e]
    exact Int.dvd_sub (ha i _ t (List.getElem?_eq_getElem il) hi) (hb i _ t (List.getElem?_eq_getElem il) hi)
  obtain ⟨y, hy⟩ := d
  have e : a - s = (b - s) + lcmL ts * y := by omega
  rw [e, Int.add_mul_emod_self_left]
theorem leaves_none (rest : Int) : Leaves rest [] [] := Leaves.nil rest
theorem lcm_int (M t : Nat) : ((M : Int) * t) / ((Nat.gcd M t : Nat) : Int) = ((Nat.lcm M t : Nat) : Int) := by
  rw [Nat.lcm, Int.natCast_ediv, Int.natCast_mul]
end K78
set_option Elab.async false
set_option linter.all false
set_option maxRecDepth 100000
set_option maxHeartbeats 2000000
/-! What turns a number back; the least number that leaves rests. -/
namespace K78
open PySem PySem.Spec PyProof.Rows L2 Bp
section
variable {P : Program} {w : World} {K : PySem.W.Frag} {mg : Str → Option Value} {base : Heap}
abbrev NsI : List Str := ["number", "many", "elder", "heir", "worth", "worth_of_heir", "times"]
theorem scInv : FnScope NsI ["number", "many"] (defScope s_inverse) := ⟨rfl, rfl, rfl, by decide +kernel, rfl, by decide +kernel, by decide +kernel⟩
def spInv : Sp := fun vs H Q _ => ∃ n m : Nat, vs = [.int n, .int m] ∧ 0 < m ∧ m ≤ 1000 ∧ Nat.gcd n m = 1 ∧ ∀ (z : Int) H', 0 ≤ z → z < m → (m : Int) ∣ n * z - 1 → Same H H' → Q (.int z) H'
theorem ok_inverse {f : Addr} {fd : FuncData} {k : Nat} (F : Fun K "inverse" "inverse" s_inverse f fd) : FnOk P w K mg base CX0 (k + 1) f fd ["number", "many"] spInv := by
  refine F.ok scInv (fun vs H Q E h => ?_) (fun cdv A outer s H vs Q E hr h => ?_)
  · obtain ⟨n, m, rfl, _⟩ := h
    rfl
  · obtain ⟨n, m, rfl, m0, m1, cop, q⟩ := h
    refine ⟨_, pss_cons (ps_par (i := 2) (j := 3) rfl scInv.nd rfl rfl (by decide) rfl rfl (pa_cons (pv 1) (pa_cons (pe_op op_mod (pv 0) (pv 1)) pa_nil)) (by rfl))
      (pss_cons (ps_asg (pe_tup (pa_cons pe_int (pa_cons pe_int pa_nil))) (pg_tup rfl (pgs_cons (pg_name (i := 4) scInv.nd rfl (.inl rfl)) (pgs_cons (pg_name (i := 5) scInv.nd rfl (.inl rfl)) pgs_nil))))
      (pss_cons (ps_while PassesOwn.never (pt_truth (pv 3) (fun _ => rfl))
        (pss_cons (ps_set (i := 6) scInv.nd rfl (.inl rfl) (pe_op op_fdiv (pv 2) (pv 3)))
        (pss_cons (ps_par (i := 2) (j := 3) rfl scInv.nd rfl rfl (by decide) rfl rfl (pa_cons (pv 3) (pa_cons (pe_op op_sub (pv 2) (pe_op op_mul (pv 6) (pv 3))) pa_nil)) (by rfl))
        (pss_one (ps_par (i := 4) (j := 5) rfl scInv.nd rfl rfl (by decide) rfl rfl (pa_cons (pv 5) (pa_cons (pe_op op_sub (pv 4) (pe_op op_mul (pv 6) (pv 5))) pa_nil)) (by rfl))))))
      (pss_one (ps_ret (pe_op op_mod (pv 4) (pv 1)))))), ?_⟩
    refine ⟨.int m, rfl, .int n, rfl, .int m, rfl, n, m, rfl, rfl, (by omega), _, _, rfl, ?_⟩
    refine ⟨(by show 2 ≤ sizeLine; decide), fun T nT => ?_⟩
    refine ⟨T, _, rfl, SqT.of upd_same, rfl, _, _, rfl, _, _, rfl, rfl, ?_⟩
    refine ⟨fun d σ H1 => ∃ (e h : Nat) (a b : Int) (v : Option V), σ = [some (.int n), some (.int m), some (.int e), some (.int h), some (.int a), some (.int b), v] ∧ h = d ∧ 0 < e ∧ e ≤ 1000 ∧ h ≤ 1000 ∧ Nat.gcd e h = 1 ∧ Inv n m e h a b ∧ Same H H1, ?_, ?_⟩
    · refine ⟨n % m, m, n % m, 0, 1, none, ?_, rfl, m0, m1, ?_, ?_, ⟨?_, ?_⟩, same_new nT⟩
      · rw [Int.natCast_emod]
        rfl
      · exact Nat.le_trans (Nat.le_of_lt (Nat.mod_lt _ m0)) m1
      · rw [Nat.gcd_comm, ← Nat.gcd_rec, Nat.gcd_comm]
        exact cop
      · rw [Int.zero_mul, Int.zero_sub]
        exact Int.dvd_neg.mpr (Int.dvd_refl _)
      · rw [Int.one_mul, Int.natCast_emod]
        exact Int.dvd_self_sub_emod
    · rintro d σ H1 ⟨e, h, a, b, v, rfl, rfl, e0, e1, h1, g, iv, sm⟩
      refine ⟨.int h, rfl, _, rfl, ?_⟩
      by_cases h0 : h = 0
      · subst h0
        refine noOf (by rfl) ?_
        have e1 : e = 1 := by rw [Nat.gcd_zero_right] at g; exact g
        subst e1
        refine ⟨.int a, rfl, .int m, rfl, a, m, rfl, rfl, (by omega), ?_⟩
        refine q _ _ (Int.emod_nonneg _ (by omega)) (Int.emod_lt_of_pos _ (by omega)) ?_ sm
        have := iv.we
        rw [Int.emod_def, Int.mul_sub, Int.mul_comm (n : Int) a, Int.mul_left_comm (n : Int) (m : Int)]
        have e : a * n - m * (n * (a / m)) - 1 = (a * n - ((1 : Nat) : Int)) - m * (n * (a / m)) := by omega
        rw [e]
        exact Int.dvd_sub this (Int.dvd_mul_right _ _)
      · refine yesOf (by show ((h : Int) != 0) = true; rw [bne_iff_ne]; omega) ?_
        have hp : 0 < h := Nat.pos_of_ne_zero h0
        have eq1 : (e : Int) - (e : Int) / h * h = ((e % h : Nat) : Int) := by
          rw [Int.natCast_emod, Int.emod_def, Int.mul_comm (h : Int)]
        have ediv : (e : Int) / h = ((e / h : Nat) : Int) := (Int.natCast_ediv e h).symm
        have dle : e / h ≤ 1000 := Nat.le_trans (Nat.div_le_self _ _) e1
        have mlt := Nat.mod_lt e hp
        have dle2 : (e : Int) / h ≤ 1000 := by rw [ediv]; exact Int.ofNat_le.mpr dle
        have d0 : 0 ≤ (e : Int) / h := Int.ediv_nonneg (by omega) (by omega)
        refine ⟨fun σ' H' => ∃ v, σ' = [some (.int n), some (.int m), some (.int h), some (.int ((e % h : Nat) : Int)), some (.int b), some (.int (a - ((e / h : Nat) : Int) * b)), v] ∧ Same H H', ?_, ?_⟩
        · rintro σ' H' ⟨v, rfl, sm'⟩
          exact ⟨e % h, mlt, h, e % h, b, _, v, rfl, rfl, hp, h1, by omega, by rw [Nat.gcd_comm, ← Nat.gcd_rec, Nat.gcd_comm]; exact g, iv.step hp, sm'⟩
        · refine ⟨.int e, rfl, .int h, rfl, e, h, rfl, rfl, ⟨by omega, by omega⟩, ?_⟩
          refine ⟨.int h, rfl, .int e, rfl, .int ((e : Int) / h), rfl, .int h, rfl, _, _, rfl, rfl, .inr ⟨by omega, by omega⟩, _, _, rfl, rfl, _, _, rfl, ?_⟩
          refine ⟨.int b, rfl, .int a, rfl, .int ((e : Int) / h), rfl, .int b, rfl, _, _, rfl, rfl, .inl ⟨by omega, by omega⟩, _, _, rfl, rfl, _, _, rfl, ?_⟩
          rw [← eq1, ← ediv]
          exact ⟨_, rfl, sm⟩
/-! ### the least number -/
def nums (l : List Nat) : List V := l.map fun n : Nat => V.int (n : Int)
theorem nums_len (l : List Nat) : (nums l).length = l.length := List.length_map _
theorem nums_get {l : List Nat} {i n : Nat} (h : l[i]? = some n) : (nums l)[i]? = some (.int n) := by
  unfold nums
  rw [List.getElem?_map, h]
  rfl
theorem nums_of {l : List Nat} {i : Nat} {v : V} (h : (nums l)[i]? = some v) : ∃ n : Nat, l[i]? = some n ∧ v = .int n := by
  unfold nums at h
  rw [List.getElem?_map] at h
  cases e : l[i]? with
  | none =>
    rw [e] at h
    cases h
  | some n =>
    rw [e] at h
    exact ⟨n, rfl, (Option.some.inj h).symm⟩
theorem nums_snoc (l : List Nat) (n : Nat) : nums (l ++ [n]) = nums l ++ [.int n] := by
  unfold nums
  rw [List.map_append]
  rfl
/-- two lists, or two tuples -/
def Two (K : PySem.W.Frag) (H : Hp) (lst : Bool) (a b : Addr) (xs ys : List V) : Prop := if lst = true then SqL K H a xs ∧ SqL K H b ys else SqT K H a xs ∧ SqT K H b ys
theorem sameT {H H' : Hp} {a : Addr} {xs : List V} (e : Same H H') (h : SqT K H a xs) : SqT K H' a xs := by
  rcases h with (h | ⟨o, h⟩) | h
  · exact .inl (.inl (e _ _ h))
  · exact .inl (.inr ⟨o, e _ _ h⟩)
  · exact .inr h
theorem Two.same {H H' : Hp} {lst : Bool} {a b : Addr} {xs ys : List V} (s : Same H H') (h : Two K H lst a b xs ys) : Two K H' lst a b xs ys := by
  cases lst with
  | true => exact ⟨s.seq h.1, s.seq h.2⟩
  | false => exact ⟨sameT s h.1, sameT s h.2⟩
/-- rounds to 400, rests below them -/
structure Good (rs ts : List Nat) : Prop where
  len : rs.length = ts.length
  few : ts.length ≤ 5
  lo : ∀ t ∈ ts, 0 < t
  hi : ∀ t ∈ ts, t ≤ 400
  lt : ∀ (i r t : Nat), rs[i]? = some r → ts[i]? = some t → r < t
theorem big400 {ts : List Nat} (lo : ∀ t ∈ ts, 0 < t) (hi : ∀ t ∈ ts, t ≤ 400) (few : ts.length ≤ 5) : lcmL ts ≤ 10240000000000 := by
  have h := lcmL_le (b := 400) fun t ht => ⟨lo t ht, hi t ht⟩
  refine Nat.le_trans h (Nat.le_trans (Nat.pow_le_pow_right (by decide) few) (by decide))
theorem Good.big {rs ts : List Nat} (g : Good rs ts) (k : Nat) : 0 < lcmL (ts.take k) ∧ lcmL (ts.take k) ≤ 10240000000000 :=
  ⟨lcmL_pos fun t ht => g.lo t (List.mem_of_mem_take ht), big400 (fun t ht => g.lo t (List.mem_of_mem_take ht)) (fun t ht => g.hi t (List.mem_of_mem_take ht)) (by rw [List.length_take]; have := g.few; omega)⟩
abbrev NsL : List Str := ["rests", "rounds", "least", "rest", "many", "told", "length", "common", "other"]
theorem scLw : FnScope NsL ["rests", "rounds", "least"] (defScope s_least_with) := ⟨rfl, rfl, rfl, by decide +kernel, rfl, by decide +kernel, by decide +kernel⟩
def spLw (K : PySem.W.Frag) : Sp := fun vs H Q _ => ∃ (a b : Addr) (least : Int) (rs ts : List Nat) (lst : Bool), vs = [.ref a, .ref b, .int least] ∧ Two K H lst a b (nums rs) (nums ts) ∧ Good rs ts ∧
  (∀ H', Same H H' → Apart rs ts → Q .non H') ∧ (∀ H' rest, Same H H' → Leaves rest rs ts → Q (.int (least + (rest - least) % (lcmL ts : Int))) H')
abbrev FDl (K : PySem.W.Frag) (x qual : Str) (st : Stmt) (dvs : List V) (kws : List (Str × V)) (f : Addr) (fd : FuncData) : Prop := FunD K x qual (defArgs st) (defBody st) (defScope st) dvs kws f fd
/-- a loop over zip of both -/
theorem for_zip2 {a b : Addr} {xs ys : List V} {g : TG} {tb : TS} {D : Ends} {σ : L2.St} {H : Hp} {lst : Bool} (hl : xs.length = ys.length) (Pv : Nat → L2.St → Hp → Prop) (h0 : Pv 0 σ H) (hq : ∀ i σ H, Pv i σ H → Two K H lst a b xs ys)
    (hs : ∀ (i : Nat) (x y : V) (T : Addr) (σ : L2.St) (H : Hp), xs[i]? = some x → ys[i]? = some y → Pv i σ H → H T = none → g (.ref T) σ (upd H T (.tup [x, y])) fun σ2 H2 => tb { D with nx := Pv (i + 1), ct := Pv (i + 1), bk := D.nx } σ2 H2) (hd : ∀ σ H, Pv xs.length σ H → D.nx σ H) :
    (SqL K H a xs ∧ SqL K H b ys ∧ ∃ W : Nat → Nat → L2.St → Hp → Prop, (∃ m, W 0 m σ H) ∧ ∀ i m σ H, W i m σ H →
      ((Itz K a b).stop i H ∧ D.nx σ H) ∨ ((Itz K a b).go i H ∧ ∃ N : L2.St → Hp → Prop, (∀ σ' H', N σ' H' → ∃ m', m' < m ∧ W (i + 1) m' σ' H') ∧ ∀ v H', (Itz K a b).yld i H v H' → g v σ H' fun σ2 H2 => tb { D with nx := N, ct := N, bk := D.nx } σ2 H2)) ∨
    (SqT K H a xs ∧ SqT K H b ys ∧ ∃ W : Nat → Nat → L2.St → Hp → Prop, (∃ m, W 0 m σ H) ∧ ∀ i m σ H, W i m σ H →
      ((RZ.ItzT K a b).stop i H ∧ D.nx σ H) ∨ ((RZ.ItzT K a b).go i H ∧ ∃ N : L2.St → Hp → Prop, (∀ σ' H', N σ' H' → ∃ m', m' < m ∧ W (i + 1) m' σ' H') ∧ ∀ v H', (RZ.ItzT K a b).yld i H v H' → g v σ H' fun σ2 H2 => tb { D with nx := N, ct := N, bk := D.nx } σ2 H2)) := by
  have q := hq 0 σ H h0
  cases lst with
  | true => exact .inl ⟨q.1, q.2, RZ.for_zipL hl Pv h0 hq hs hd⟩
  | false => exact .inr ⟨q.1, q.2, RZ.for_zipT hl Pv h0 hq hs hd⟩
theorem ok_least {f fI : Addr} {fd fdI : FuncData} {k : Nat} (F : FDl K "least_with" "least_with" s_least_with [] [("least", .int 0)] f fd) (FI : Fun K "inverse" "inverse" s_inverse fI fdI) (bI : Binds K fdI ["number", "many"] []) (gI : mg "inverse" = some (.ref fI))
    (GI : FnOk P w K mg base CX0 k fI fdI ["number", "many"] spInv) (mz : mg "zip" = none) (mgc : mg "gcd" = some (.builtin "math.gcd")) : FnOk P w K mg base CX0 (k + 1) f fd ["rests", "rounds", "least"] (spLw K) := by
  refine FunD.ok F scLw (fun vs H Q E h => ?_) (fun cdv A outer s H vs Q E hr h => ?_)
  · obtain ⟨a, b, l, rs, ts, lst, rfl, _⟩ := h
    rfl
  · obtain ⟨a, b, least, rs, ts, lst, rfl, two, good, qn, qy⟩ := h
    refine ⟨_, pss_cons (ps_asg (pe_tup (pa_cons pe_int (pa_cons pe_int pa_nil))) (pg_tup rfl (pgs_cons (pg_name (i := 3) scLw.nd rfl (.inl rfl)) (pgs_cons (pg_name (i := 4) scLw.nd rfl (.inl rfl)) pgs_nil))))
      (pss_cons (ps_for (passes_of rfl) rfl (RZ.pi_zipA (by rfl) mz (pa_cons (pv 0) (pa_cons (pv 1) pa_nil))) (pg_tup rfl (pgs_cons (pg_name (i := 5) scLw.nd rfl (.inl rfl)) (pgs_cons (pg_name (i := 6) scLw.nd rfl (.inl rfl)) pgs_nil)))
        (pss_cons (ps_set (i := 7) scLw.nd rfl (.inl rfl) (pe_callBfun cr_gcd (by rfl) mgc (pa_cons (pv 4) (pa_cons (pv 6) pa_nil))))
        (pss_cons (ps_if (PW.pt (pw_or (pt_not (pt_chain op_le op_lt pe_int (pv 5) (pv 6))) (pw_or1 (pt_cmpR op_ne (pe_op op_mod (pe_op op_sub (pv 5) (pv 3)) (pv 7)) pe_int (nomark _))))) (pss_one (ps_ret pe_non)) pss_nil)
        (pss_cons (ps_set (i := 8) scLw.nd rfl (.inl rfl) (pe_op op_fdiv (pv 6) (pv 7)))
        (pss_cons (ps_aug (i := 3) scLw.nd rfl (.inl rfl) (pe_op op_mul (pv 4) (pe_op op_mod (pe_op op_mul (pe_op op_fdiv (pe_op op_sub (pv 5) (pv 3)) (pv 7)) (pe_call GI hr rfl gI FI.kp bI .nil pass0 (pa_cons (pe_op op_fdiv (pv 4) (pv 7)) (pa_cons (pv 8) pa_nil)))) (pv 8))) ip_add)
        (pss_one (ps_set (i := 4) scLw.nd rfl (.inl rfl) (pe_op op_mul (pv 4) (pv 8)))))))))
      (pss_one (ps_ret (pe_op op_add (pv 2) (pe_op op_mod (pe_op op_sub (pv 3) (pv 2)) (pv 4)))))), ?_⟩
    refine ⟨(by show 2 ≤ sizeLine; decide), fun T nT => ?_⟩
    refine ⟨T, _, rfl, SqT.of upd_same, rfl, _, _, rfl, _, _, rfl, rfl, ?_⟩
    have s0 : Same H (upd H T (.tup [.int 0, .int 1])) := same_new nT
    have two0 := two.same s0
    have len : (nums rs).length = (nums ts).length := by rw [nums_len, nums_len]; exact good.len
    refine ⟨.ref a, rfl, .ref b, rfl, a, b, nums rs, nums ts, rfl, ?_⟩
    refine for_zip2 (lst := lst) len (fun i σ H1 => ∃ (rest : Int) (v5 v6 v7 v8 : Option V), σ = [some (.ref a), some (.ref b), some (.int least), some (.int rest), some (.int (lcmL (ts.take i) : Nat)), v5, v6, v7, v8] ∧ Leaves rest (rs.take i) (ts.take i) ∧ Same H H1)
      ⟨0, none, none, none, none, rfl, Leaves.nil _, s0⟩ (fun i σ H1 z => ?_) ?_ ?_
    · obtain ⟨_, _, _, _, _, _, _, sm⟩ := z
      exact two.same sm
    · rintro i x y T1 σ H1 hx hy ⟨rest, v5, v6, v7, v8, rfl, lv, sm⟩ nT1
      obtain ⟨r, er, rfl⟩ := nums_of hx
      obtain ⟨t, et, rfl⟩ := nums_of hy
      have hT1 := sm.trans (same_new (o := .tup [.int (r : Int), .int (t : Int)]) nT1)
      have tm := List.mem_of_getElem? et
      have t0 := good.lo t tm
      have t4 := good.hi t tm
      have rt := good.lt i r t er et
      obtain ⟨M0, M1⟩ := good.big i
      have gp : 0 < Nat.gcd (lcmL (ts.take i)) t := Nat.gcd_pos_of_pos_right _ t0
      have gle : Nat.gcd (lcmL (ts.take i)) t ≤ t := Nat.le_of_dvd t0 (Nat.gcd_dvd_right _ _)
      refine ⟨T1, _, rfl, SqT.of upd_same, rfl, _, _, rfl, _, _, rfl, rfl, ?_⟩
      refine ⟨_, rfl, .int t, rfl, _, _, rfl, ?_⟩
      rw [show ((lcmL (ts.take i) : Nat) : Int).natAbs = lcmL (ts.take i) from Int.natAbs_natCast _, show ((t : Nat) : Int).natAbs = t from Int.natAbs_natCast _]
      have an := apart_next (rest := rest) (k := i) lv good.lo good.len er et
      have ln := fun inv => leaves_next (inv := inv) lv t0 er et
      have lsn : lcmL (ts.take (i + 1)) = lcmL (ts.take i) * (t / Nat.gcd (lcmL (ts.take i)) t) := by
        rw [List.take_add_one, et]
        show lcmL (_ ++ [t]) = _
        rw [lcmL_snoc, lcm_next]
      generalize hM : lcmL (ts.take i) = M at *
      generalize hg : Nat.gcd M t = g at *
      have bad : ¬ (g : Int) ∣ (r : Int) - rest → ∀ H3, Same H1 H3 → Q .non H3 := fun n H3 s3 => qn H3 (sm.trans s3) (an n)
      have g0 : (0 : Int) < g := by omega
      refine ⟨.int r, rfl, 0, r, rfl, rfl, _, rfl, yesOf (decide_eq_true (by omega)) ?_⟩
      refine ⟨.int t, rfl, r, t, rfl, rfl, _, rfl, noOf (by rw [decide_eq_true (by omega)]; rfl) ?_⟩
      refine ⟨.int r, rfl, .int rest, rfl, r, rest, rfl, rfl, .int g, rfl, _, _, rfl, rfl, g0, rfl, _, rfl, ?_⟩
      by_cases dv : (g : Int) ∣ (r : Int) - rest
      · refine noOf (by show (!decide (V.int (((r : Int) - rest) % (g : Int)) = V.int 0)) = false; rw [Int.emod_eq_zero_of_dvd dv]; rfl) ?_
        have gb : (g : Int) < 1073741824 := by omega
        have o1 : t / g ≤ 400 := Nat.le_trans (Nat.div_le_self _ _) t4
        have gt : g ∣ t := hg ▸ Nat.gcd_dvd_right M t
        have gM : g ∣ M := hg ▸ Nat.gcd_dvd_left M t
        have o0 : 0 < t / g := Nat.div_pos gle gp
        have cop : Nat.gcd (M / g) (t / g) = 1 := by
          rw [Nat.gcd_div gM gt, hg]
          exact Nat.div_self gp
        refine ⟨.int t, rfl, .int g, rfl, t, g, rfl, rfl, ⟨g0, gb⟩, ?_⟩
        refine ⟨.int rest, rfl, .int M, rfl, .int r, rfl, .int rest, rfl, r, rest, rfl, rfl, .int g, rfl, _, g, rfl, rfl, ⟨g0, gb⟩, .int M, rfl, .int g, rfl, M, g, rfl, rfl, ⟨g0, gb⟩, .int ((t : Int) / g), rfl, M / g, t / g, ?_, o0, by omega, cop, ?_⟩
        · rw [Int.natCast_ediv, Int.natCast_ediv]
          rfl
        · intro z H3 z0 z1 hz s3
          have z4 : z < 2 ^ 64 := by omega
          have q0 : (0 : Int) < (t : Int) / g := by rw [← Int.natCast_ediv]; omega
          refine ⟨_, _, rfl, rfl, .inr ⟨by omega, z4⟩, .int ((t : Int) / g), rfl, _, _, rfl, rfl, q0, _, _, rfl, rfl, .inl ⟨by omega, by omega⟩, _, _, rfl, rfl, ?_⟩
          refine ⟨.int M, rfl, .int ((t : Int) / g), rfl, _, _, rfl, rfl, .inl ⟨by omega, by omega⟩, ?_⟩
          have lz := ln z dv hz
          rw [Int.natCast_ediv] at lz
          refine ⟨_, some (.int r), some (.int t), some (.int g), some (.int ((t : Int) / g)), ?_, lz, (sm.trans (same_new nT1)).trans s3⟩
          rw [lsn, Int.natCast_mul, Int.natCast_ediv]
          rfl
      · refine yesOf ?_ (bad dv _ (same_new nT1))
        have n : ¬ V.int (((r : Int) - rest) % (g : Int)) = V.int 0 := fun z => dv (Int.dvd_of_emod_eq_zero (V.int.inj z))
        show (!decide (V.int (((r : Int) - rest) % (g : Int)) = V.int 0)) = true
        rw [decide_eq_false n]
        rfl
    · rintro σ H1 ⟨rest, v5, v6, v7, v8, rfl, lv, sm⟩
      rw [nums_len] at lv ⊢
      have e1 : ts.take rs.length = ts := List.take_of_length_le (by rw [good.len]; exact Nat.le_refl _)
      rw [e1] at lv ⊢
      rw [List.take_length] at lv
      have p := lcmL_pos good.lo
      refine ⟨.int least, rfl, .int rest, rfl, .int least, rfl, _, _, rfl, rfl, .int (lcmL ts : Nat), rfl, _, _, rfl, rfl, (by omega), _, _, rfl, rfl, ?_⟩
      exact qy H1 rest sm lv
end
end K78
set_option Elab.async false
set_option linter.all false
set_option maxRecDepth 100000
set_option maxHeartbeats 2000000
set_option exponentiation.threshold 400
/-! The law's own hand: what it draws. -/
namespace K78
open PySem PySem.Spec PyProof.Rows L2 Bp
section
variable {P : Program} {w : World} {K : PySem.W.Frag} {mg : Str → Option Value} {base : Heap}
/-! ### the feed -/
theorem scFeed : FnScope ["_law_script", "_law_cell"] ["_law_script"] (defScope s_law_feed) := ⟨rfl, rfl, rfl, by decide +kernel, rfl, by decide +kernel, by decide +kernel⟩
def spFeed (K : PySem.W.Frag) : Sp := fun vs H Q _ => ∃ (a : Addr) (ns : List Int), vs = [.ref a] ∧ SqL K H a (ns.map V.int) ∧ ns.length ≤ 1000 ∧ ∀ H' (g : Fed), H g.f = none → FeedAt K H' g 0 → Same H H' → Q (.ref g.f) H'
theorem ok_feed {f : Addr} {fd : FuncData} {k : Nat} (F : Fun K "_law_feed" "_law_feed" s_law_feed f fd) : FnOk P w K mg base CX0 (k + 1) f fd ["_law_script"] (spFeed K) := by
  refine F.ok scFeed (fun vs H Q E h => ?_) (fun cdv A outer s H vs Q E hr h => ?_)
  · obtain ⟨a, ns, rfl, _⟩ := h
    rfl
  · obtain ⟨a, ns, rfl, hS, few, q⟩ := h
    refine ⟨_, pss_one (ps_ret (pe_disp (pps_cons pe_str (pe_lc (own := [("_law_cell", 1)]) (g := gName 1) (tt := tYes) rfl scFeed.nd (pi_list (pe_slice sl_list (pv 0) po_none (po_some pe_int))) (blkOk_by (own := [("_law_cell", 1)]) (N := ["_law_script", "_law_cell"]) (sc := defScope s_law_feed) (by decide +kernel))
        (fun _ _ _ _ _ => pg_name (i := 1) scFeed.nd rfl (Or.inl rfl)) (fun _ _ _ _ _ => pts_nil) (fun _ _ _ _ _ => pv 1))
      (pps_cons pe_str pe_int (pps_cons pe_str pe_int pps_nil))) (by rfl) (by rfl) (fun z => by cases z) (by decide))), ?_⟩
    intro f nf
    have s1 : Same H (upd H f (.dK [])) := same_new nf
    obtain ⟨ms, em, short⟩ : ∃ ms : List Int, cutV (ns.map V.int) none (some 63) = ms.map V.int ∧ ms.length ≤ 1000 := by
      refine ⟨(ns.drop (HT.sIx (ns.map V.int).length 0 none)).take (HT.sIx (ns.map V.int).length (ns.map V.int).length (some 63) - HT.sIx (ns.map V.int).length 0 none), ?_, ?_⟩
      · unfold cutV
        rw [List.map_take, List.map_drop]
      · rw [List.length_take, List.length_drop]
        omega
    refine ⟨.ref a, rfl, 63, rfl, a, ns.map V.int, rfl, s1.seq hS, fun c nc => ?_⟩
    rw [em]
    have s2 : Same (upd H f (.dK [])) (upd (upd H f (.dK [])) c (.lst (ms.map V.int))) := same_new nc
    refine ⟨c, rfl, ⟨_, SqL.of upd_same⟩, fun D nD => ?_⟩
    refine lc_list (xs := ms.map V.int) (fun i H' => Same (upd (upd H f (.dK [])) c (.lst (ms.map V.int))) H' ∧ H' D = some (.lst ((ms.take i).map V.int))) ⟨same_new nD, upd_same⟩ (fun i H' _ z => SqL.of (z.1 _ _ upd_same)) ?_ ?_
    · rintro i x H1 hx ⟨sm, hD⟩
      obtain ⟨z, hz, rfl⟩ : ∃ z, ms[i]? = some z ∧ x = V.int z := by
        rw [List.getElem?_map] at hx
        cases e : ms[i]? with
        | none =>
          rw [e] at hx
          cases hx
        | some z =>
          rw [e] at hx
          exact ⟨z, rfl, (Option.some.inj hx).symm⟩
      refine ⟨rfl, yes_kept ?_⟩
      refine ⟨.int z, rfl, _, hD, ?_, ?_, ?_⟩
      · rw [List.length_map, List.length_take]
        exact small1000 (by omega)
      · exact fun b o e => by
          rw [upd_ne (ne_of_none e nD)]
          exact sm b o e
      · rw [upd_same, List.take_add_one, hz, List.map_append]
        rfl
    · rintro H1 ⟨sm, hD⟩
      rw [List.length_map, List.take_length] at hD
      have hf : H1 f = some (.dK []) := sm _ _ (s2 _ _ upd_same)
      refine ⟨hf, feedKvs D 0 0, rfl, (by show 3 ≤ 15; decide), ?_⟩
      rw [feed_made]
      refine q _ ⟨f, D, ms⟩ nf ⟨0, 0, upd_same, ?_, Int.le_refl _, Int.le_refl _, Int.le_refl _⟩ ?_
      · have ne : D ≠ f := ne_of hD hf (by intro z; cases z)
        exact SqL.of (by rw [upd_ne ne]; exact hD)
      · exact fun b o e => by
          rw [upd_ne (ne_of_none e nf)]
          exact sm _ _ (s2 _ _ (s1 _ _ e))
/-! ### a draw -/
theorem scDraw : FnScope ["_law_feed_here", "_law_many", "_law_digit", "_law_at", "_law_cell", "_law_mixed"] ["_law_feed_here", "_law_many"] (defScope s_law_draw) := ⟨rfl, rfl, rfl, by decide +kernel, rfl, by decide +kernel, by decide +kernel⟩
def spDraw (K : PySem.W.Frag) : Sp := fun vs H Q _ => ∃ (f : Fed) (m : Int) (n : Nat), vs = [.ref f.f, .int m] ∧ FeedAt K H f n ∧ n ≤ 2 ^ 40 ∧ 0 < m ∧ m.natAbs < 2 ^ 300 ∧ ∀ d H', 0 ≤ d → d < m → FeedAt K H' f (n + 1) → Kept f.f H H' → Q (.int d) H'
theorem abs_nn {z : Int} : 0 ≤ (if z < 0 then -z else z) := by
  split <;> omega
theorem mid {z : Int} (h0 : 0 ≤ z) (h : z ≤ 2 ^ 63) : CMul z z := .inl ⟨by omega, by omega⟩
theorem ok_draw {f : Addr} {fd : FuncData} {k : Nat} (F : Fun K "_law_draw" "_law_draw" s_law_draw f fd) (ml : mg "len" = none) (ma : mg "abs" = none) : FnOk P w K mg base CX0 (k + 1) f fd ["_law_feed_here", "_law_many"] (spDraw K) := by
  refine F.ok scDraw (fun vs H Q E h => ?_) (fun cdv A outer s H vs Q E hr h => ?_)
  · obtain ⟨a, m, n, rfl, _⟩ := h
    rfl
  · obtain ⟨⟨a, c, ns⟩, m, n, rfl, fe, hn, m0, mb, q⟩ := h
    have hu := hu_of hr
    have hu64 : A.units + 3 + 64 < cLine := hr.units
    obtain ⟨at_, left, ef, sc, a0, an, l0⟩ := fe
    have small : ∀ z : Int, CDivW z m := fun z => wide_div m0 mb (by decide) (by decide)
    have at40 : at_ ≤ 2 ^ 40 := by omega
    have q2 : ∀ (z l : Int) (H' : Hp), 0 ≤ l → Kept a H H' → H' a = some (.dK (feedKvs c (at_ + 1) l)) → Q (.int (z % m)) H' := fun z l H' h0 kp e =>
      q _ _ (Int.emod_nonneg _ (by omega)) (Int.emod_lt_of_pos _ m0) ⟨at_ + 1, l, e, kp.seq ef sc, by omega, (by show at_ + 1 ≤ ((n + 1 : Nat) : Int); omega), h0⟩ kp
    -- what is done with the cell
    obtain ⟨tt, ht, pt⟩ : ∃ t, PSs (cxOf CX0 P w K mg base ["_law_feed_here", "_law_many", "_law_digit", "_law_at", "_law_cell", "_law_mixed"] "_law_draw" (defScope s_law_draw) f cdv A outer s H E).nox ((defBody s_law_draw).drop 5) t ∧
        ∀ (cell : Int) (H1 : Hp), Kept a H H1 → H1 a = some (.dK (feedKvs c (at_ + 1) left)) → t { nx := fun _ H' => Q .non H', rt := Q } [some (.ref a), some (.int m), none, some (.int at_), some (.int cell), none] H1 := by
      refine ⟨_, pss_cons (ps_if (PW.pt (pw_and (pt_cmpR op_lt (pv 3) (pe_callB call_len_seq (by rfl) ml PySem.boot_len (pa_cons (pe_dget hu (pv 0) pe_str (fun _ _ => rfl)) pa_nil)) (nomark _))
            (pw_and1 (pt_cmpR op_ge (pe_callB call_abs (by rfl) ma (by decide +kernel) (pa_cons (pv 4) pa_nil)) (pe_op op_pow pe_int pe_int) (nomark _)))))
        (pss_cons (ps_dput hu (pv 0) pe_str (pe_op op_fdivW (pe_op op_sub (pe_callB call_abs (by rfl) ma (by decide +kernel) (pa_cons (pv 4) pa_nil)) (pe_op op_pow pe_int pe_int)) (pv 1)) rfl)
        (pss_one (ps_ret (pe_op op_mod (pe_op op_sub (pe_callB call_abs (by rfl) ma (by decide +kernel) (pa_cons (pv 4) pa_nil)) (pe_op op_pow pe_int pe_int)) (pv 1))))) pss_nil)
      (pss_cons (ps_set (i := 5) scDraw.nd rfl (.inl rfl) (pe_op op_mod (pe_op op_add (pe_op op_mul (pv 4) pe_int) (pe_op op_mul pe_int (pe_op op_add (pv 3) pe_int))) pe_int))
      (pss_cons (ps_set (i := 5) scDraw.nd rfl (.inl rfl) (pe_op op_mod (pe_op op_mul (pv 5) (pe_op op_add (pv 5) pe_int)) pe_int))
      (pss_one (ps_ret (pe_op op_mod (pe_op op_fdivW (pv 5) pe_int) (pv 1)))))), ?_⟩
      intro cell H1 kp e1
      have s1 : SqL K H1 c (ns.map V.int) := kp.seq ef sc
      have cp : CPow 10 18 := ⟨by decide, by decide, by decide⟩
      have last : ∀ (z : Int) (H' : Hp), Kept a H H' → H' a = some (.dK (feedKvs c (at_ + 1) left)) → Q (.int (z % m)) H' := fun z H' kp e => q2 z left H' l0 kp e
      have big : (0 : Int) < 18446744073709551557 := by decide
      have m1 : ∀ z : Int, CMul z 6364136223846793005 := fun z => .inr ⟨by decide, by decide⟩
      have m2 : ∀ z : Int, CMul 1442695040888963407 z := fun z => .inl ⟨by decide, by decide⟩
      have m3 : ∀ z y : Int, CMul (z % 18446744073709551557) y := fun z y => .inl ⟨by omega, by omega⟩
      have d1 : ∀ z : Int, CDivW z 4294967311 := fun z => wide_div (by decide) (b := 40) (by decide) (by decide) (by decide)
      refine ⟨.int at_, rfl, .ref a, rfl, a, _, rfl, get_cells e1, c, _, rfl, .inl s1, _, _, rfl, rfl, _, rfl, ?_⟩
      refine ite2 (fun c1 => ?_) (fun c1 => ?_)
      · refine ⟨.int cell, rfl, cell, rfl, 10, 18, rfl, rfl, cp, _, _, rfl, rfl, _, rfl, ?_⟩
        refine ite2 (fun c2 => ?_) (fun c2 => ?_)
        · refine ⟨.int cell, rfl, cell, rfl, 10, 18, rfl, rfl, cp, _, _, rfl, rfl, .int m, rfl, _, _, rfl, rfl, small _, .ref a, rfl, a, _, rfl, put_left e1, ?_⟩
          refine ⟨.int cell, rfl, cell, rfl, 10, 18, rfl, rfl, cp, _, _, rfl, rfl, .int m, rfl, _, _, rfl, rfl, m0, ?_⟩
          refine q2 _ _ _ (Int.ediv_nonneg ?_ (by omega)) (kp.trans (Kept.put _)) upd_same
          have := of_decide_eq_true c2
          omega
        · refine ⟨.int cell, rfl, _, _, rfl, rfl, m1 _, .int at_, rfl, _, _, rfl, rfl, _, _, rfl, rfl, m2 _, _, _, rfl, rfl, _, _, rfl, rfl, big, ?_⟩
          refine ⟨_, rfl, _, rfl, _, _, rfl, rfl, _, _, rfl, rfl, m3 _ _, _, _, rfl, rfl, big, ?_⟩
          exact ⟨_, rfl, _, _, rfl, rfl, d1 _, .int m, rfl, _, _, rfl, rfl, m0, last _ H1 kp e1⟩
      · refine ⟨.int cell, rfl, _, _, rfl, rfl, m1 _, .int at_, rfl, _, _, rfl, rfl, _, _, rfl, rfl, m2 _, _, _, rfl, rfl, _, _, rfl, rfl, big, ?_⟩
        refine ⟨_, rfl, _, rfl, _, _, rfl, rfl, _, _, rfl, rfl, m3 _ _, _, _, rfl, rfl, big, ?_⟩
        exact ⟨_, rfl, _, _, rfl, rfl, d1 _, .int m, rfl, _, _, rfl, rfl, m0, last _ H1 kp e1⟩
    refine ⟨_, pss_cons (ps_if (pt_cmpR op_gt (pe_dget hu (pv 0) pe_str (fun _ _ => rfl)) pe_int (nomark _))
        (pss_cons (ps_set (i := 2) scDraw.nd rfl (.inl rfl) (pe_op op_mod (pe_dget hu (pv 0) pe_str (fun _ _ => rfl)) (pv 1)))
        (pss_cons (ps_dput hu (pv 0) pe_str (pe_op op_fdivW (pe_dget hu (pv 0) pe_str (fun _ _ => rfl)) (pv 1)) rfl)
        (pss_one (ps_ret (pv 2))))) pss_nil)
      (pss_cons (ps_set (i := 3) scDraw.nd rfl (.inl rfl) (pe_dget hu (pv 0) pe_str (fun _ _ => rfl)))
      (pss_cons (ps_dput hu (pv 0) pe_str (pe_op op_add (pv 3) pe_int) rfl)
      (pss_cons (ps_set (i := 4) scDraw.nd rfl (.inl rfl) (pe_op op_add (pe_op op_add (pe_op op_mul (pe_op op_mul pe_int (pv 3)) (pv 3)) (pe_op op_mul pe_int (pv 3))) pe_int))
      (pss_cons (ps_if (pt_cmpR (op_neD hu64) (pe_dget hu (pv 0) pe_str (fun _ _ => rfl)) (pe_lst pa_nil) (nomark _))
        (pss_one (ps_set (i := 4) scDraw.nd rfl (.inl rfl) (pe_op op_add (pv 4) (pe_ix ix_list (pe_dget hu (pv 0) pe_str (fun _ _ => rfl)) (pe_op op_mod (pv 3) (pe_callB call_len_seq (by rfl) ml PySem.boot_len (pa_cons (pe_dget hu (pv 0) pe_str (fun _ _ => rfl)) pa_nil))) (fun _ _ => rfl))))) pss_nil) ht)))), ?_⟩
    refine ⟨.ref a, rfl, a, _, rfl, get_left ef, _, _, rfl, rfl, _, rfl, ?_⟩
    refine ite2 (fun c0 => ?_) (fun c0 => ?_)
    · refine ⟨.ref a, rfl, a, _, rfl, get_left ef, .int m, rfl, left, m, rfl, rfl, m0, ?_⟩
      refine ⟨.ref a, rfl, a, _, rfl, get_left ef, .int m, rfl, left, m, rfl, rfl, small _, .ref a, rfl, a, _, rfl, put_left ef, ?_⟩
      refine ⟨.int (left % m), rfl, ?_⟩
      exact q _ _ (Int.emod_nonneg _ (by omega)) (Int.emod_lt_of_pos _ m0) ⟨at_, left / m, upd_same, (Kept.put _).seq ef sc, a0, (by show at_ ≤ ((n + 1 : Nat) : Int); omega), Int.ediv_nonneg l0 (Int.le_of_lt m0)⟩ (Kept.put _)
    · refine ⟨.ref a, rfl, a, _, rfl, get_at ef, .int at_, rfl, at_, 1, rfl, rfl, .ref a, rfl, a, _, rfl, put_at ef, ?_⟩
      have cm : ∀ z : Int, CMul z at_ := fun z => .inr ⟨by omega, by omega⟩
      refine ⟨.int at_, rfl, 53, at_, rfl, rfl, cm _, .int at_, rfl, _, at_, rfl, rfl, cm _, .int at_, rfl, 17, at_, rfl, rfl, cm _, _, _, rfl, rfl, _, 5, rfl, rfl, ?_⟩
      have ef1 : (upd H a (.dK (feedKvs c (at_ + 1) left))) a = some (.dK (feedKvs c (at_ + 1) left)) := upd_same
      have kp1 : Kept a H (upd H a (.dK (feedKvs c (at_ + 1) left))) := Kept.put _
      refine ⟨.ref a, rfl, a, _, rfl, get_cells ef1, (by show 0 ≤ sizeLine; decide), fun l nl => ?_⟩
      have kp2 : Kept a H (upd (upd H a (.dK (feedKvs c (at_ + 1) left))) l (.lst [])) := kp1.trans (Kept.of (same_new nl))
      have ef2 : (upd (upd H a (.dK (feedKvs c (at_ + 1) left))) l (.lst [])) a = some (.dK (feedKvs c (at_ + 1) left)) := same_new nl _ _ ef1
      have sc2 := kp2.seq ef sc
      refine ⟨_, _, dp_ints sc2, dp_ints (ns := []) (SqL.of upd_same), shaped_ints _, shaped_ints [], _, rfl, ?_⟩
      show if (!PyData.eqv (.list (ns.map PyData.int)) (.list [])) = true then _ else _
      rw [eqv_nil]
      by_cases e : ns = []
      · refine noOf (by rw [decide_eq_true e]; rfl) ?_
        exact pt _ _ kp2 ef2
      · refine yesOf (by rw [decide_eq_false e]; rfl) ?_
        have lp : 0 < ns.length := List.length_pos_iff.mpr e
        refine ⟨_, rfl, .ref a, rfl, a, _, rfl, get_cells ef2, .int at_, rfl, .ref a, rfl, a, _, rfl, get_cells ef2, c, _, rfl, .inl sc2, at_, _, rfl, rfl, (by show (0 : Int) < ((ns.map V.int).length : Int); rw [List.length_map]; omega), ?_⟩
        obtain ⟨j, hj⟩ := Int.eq_ofNat_of_zero_le (Int.emod_nonneg at_ (b := (ns.map V.int).length) (by rw [List.length_map]; omega))
        have jl : j < ns.length := by
          have := Int.emod_lt_of_pos at_ (b := (ns.map V.int).length) (by rw [List.length_map]; omega)
          rw [List.length_map] at this hj
          omega
        refine ⟨c, _, at_ % ((ns.map V.int).length : Int), .int ns[j], rfl, rfl, sc2, by rw [hj]; exact atI_nat (by rw [List.getElem?_map, List.getElem?_eq_getElem jl]; rfl), _, _, rfl, rfl, ?_⟩
        exact pt _ _ kp2 ef2
theorem ix_either {X : Cx} : IxR X (fun x y H Q => rIxL X.K x y H Q ∨ rIxS x y H Q) := by
  intro value slice pins s σ H x y v u Q I rx ry h hs
  rcases h with h | h
  · exact ix_list value slice pins s σ H x y v u Q I rx ry h hs
  · exact ix_str value slice pins s σ H x y v u Q I rx ry h hs
/-! ### a pick -/
abbrev Drw (P : Program) (w : World) (K : PySem.W.Frag) (mg : Str → Option Value) (base : Heap) (k : Nat) (f : Addr) (fd : FuncData) : Prop := FnOk P w K mg base CX0 k f fd ["_law_feed_here", "_law_many"] (spDraw K)
theorem scPick : FnScope ["_law_feed_here", "_law_some"] ["_law_feed_here", "_law_some"] (defScope s_law_pick) := ⟨rfl, rfl, rfl, by decide +kernel, rfl, by decide +kernel, by decide +kernel⟩
def spPick (K : PySem.W.Frag) : Sp := fun vs H Q _ => ∃ (f : Fed) (v : V) (n : Nat), vs = [.ref f.f, v] ∧ FeedAt K H f n ∧ n ≤ 2 ^ 40 ∧
  ((∃ m : List Nat, v = .str (tx m) ∧ 0 < m.length ∧ m.length ≤ 1000 ∧ ∀ c H', c ∈ m → FeedAt K H' f (n + 1) → Kept f.f H H' → Q (.str (tx [c])) H') ∨
   (∃ (l : Addr) (xs : List V), v = .ref l ∧ SqL K H l xs ∧ 0 < xs.length ∧ xs.length ≤ 1000 ∧ ∀ x H', x ∈ xs → FeedAt K H' f (n + 1) → Kept f.f H H' → Q x H'))
theorem ok_pick {f fD : Addr} {fd fdD : FuncData} {k : Nat} (F : Fun K "_law_pick" "_law_pick" s_law_pick f fd) (FD : Fun K "_law_draw" "_law_draw" s_law_draw fD fdD) (bD : Binds K fdD ["_law_feed_here", "_law_many"] []) (gD : mg "_law_draw" = some (.ref fD))
    (GD : Drw P w K mg base k fD fdD) (ml : mg "len" = none) : FnOk P w K mg base CX0 (k + 1) f fd ["_law_feed_here", "_law_some"] (spPick K) := by
  refine F.ok scPick (fun vs H Q E h => ?_) (fun cdv A outer s H vs Q E hr h => ?_)
  · obtain ⟨a, v, n, rfl, _⟩ := h
    rfl
  · obtain ⟨a, v, n, rfl, fe, hn, h⟩ := h
    refine ⟨_, pss_one (ps_ret (pe_ix ix_either (pv 1) (pe_call GD hr rfl gD FD.kp bD .nil pass0 (pa_cons (pv 0) (pa_cons (pe_callB call_len (by rfl) ml PySem.boot_len (pa_cons (pv 1) pa_nil)) pa_nil))) (fun _ _ => rfl))), ?_⟩
    rcases h with ⟨m, rfl, m0, m1, q⟩ | ⟨l, xs, rfl, sl, x0, x1, q⟩
    · refine ⟨.str (tx m), rfl, .ref a.f, rfl, .str (tx m), rfl, .str (tx m), m.length, rfl, ⟨?_, (tx_len m).symm⟩, a, _, n, rfl, fe, hn, by omega, ?_, ?_⟩
      · rw [tx_len]
        exact Nat.le_of_lt (small1000 m1)
      · refine Nat.lt_of_lt_of_le (show (m.length : Int).natAbs < 2 ^ 10 by omega) (Nat.pow_le_pow_right (by decide) (by decide))
      · intro d H' d0 dm fe' kp
        obtain ⟨j, rfl⟩ := Int.eq_ofNat_of_zero_le d0
        have jl : j < m.length := by omega
        refine .inr ⟨tx m, _, m[j], rfl, rfl, ?_, ?_, q _ _ (List.getElem_mem jl) fe' kp⟩
        · rw [tx_len]
          exact Nat.le_of_lt (small1000 m1)
        · rw [tx_list]
          exact atI_nat (List.getElem?_eq_getElem jl)
    · refine ⟨.ref l, rfl, .ref a.f, rfl, .ref l, rfl, .ref l, xs.length, rfl, .inl ⟨xs, sl, rfl⟩, a, _, n, rfl, fe, hn, by omega, ?_, ?_⟩
      · refine Nat.lt_of_lt_of_le (show (xs.length : Int).natAbs < 2 ^ 10 by omega) (Nat.pow_le_pow_right (by decide) (by decide))
      · intro d H' d0 dm fe' kp
        obtain ⟨j, rfl⟩ := Int.eq_ofNat_of_zero_le d0
        have jl : j < xs.length := by omega
        obtain ⟨kvs, ea⟩ := fe.dict
        exact .inl ⟨l, xs, _, xs[j], rfl, rfl, kp.seq ea sl, atI_nat (List.getElem?_eq_getElem jl), q _ _ (List.getElem_mem jl) fe' kp⟩
end
end K78
set_option Elab.async false
set_option linter.all false
set_option maxRecDepth 100000
set_option maxHeartbeats 2000000
set_option exponentiation.threshold 400
/-! The law's own hand: common divisors, rounds, whether two rests are apart. -/
namespace K78
open PySem PySem.Spec PyProof.Rows L2 Bp
section
variable {P : Program} {w : World} {K : PySem.W.Frag} {mg : Str → Option Value} {base : Heap}
/-! ### common divisors -/
theorem scGcd : FnScope ["_law_one", "_law_other"] ["_law_one", "_law_other"] (defScope s_law_gcd) := ⟨rfl, rfl, rfl, by decide +kernel, rfl, by decide +kernel, by decide +kernel⟩
def spGcd : Sp := fun vs H Q _ => ∃ a b : Nat, vs = [.int a, .int b] ∧ Q (.int (Nat.gcd a b : Nat)) H
theorem ok_gcd {f : Addr} {fd : FuncData} {k : Nat} (F : Fun K "_law_gcd" "_law_gcd" s_law_gcd f fd) : FnOk P w K mg base CX0 (k + 1) f fd ["_law_one", "_law_other"] spGcd := by
  refine F.ok scGcd (fun vs H Q E h => ?_) (fun cdv A outer s H vs Q E hr h => ?_)
  · obtain ⟨a, b, rfl, _⟩ := h
    rfl
  · obtain ⟨a, b, rfl, q⟩ := h
    refine ⟨_, pss_cons (ps_while PassesOwn.never (pt_cmpR op_gt (pv 1) pe_int (nomark _))
        (pss_one (ps_par (i := 0) (j := 1) rfl scGcd.nd rfl rfl (by decide) rfl rfl (pa_cons (pv 1) (pa_cons (pe_op op_mod (pv 0) (pv 1)) pa_nil)) (by rfl))))
      (pss_one (ps_ret (pv 0))), ?_⟩
    refine ⟨fun d σ H1 => ∃ x y : Nat, σ = [some (.int x), some (.int y)] ∧ y = d ∧ Nat.gcd x y = Nat.gcd a b ∧ H1 = H, ⟨b, a, b, rfl, rfl, rfl, rfl⟩, ?_⟩
    rintro d σ H1 ⟨x, y, rfl, rfl, g, rfl⟩
    refine ⟨.int y, rfl, y, 0, rfl, rfl, _, rfl, ?_⟩
    by_cases y0 : y = 0
    · subst y0
      refine noOf (decide_eq_false (by omega)) ?_
      refine ⟨.int x, rfl, ?_⟩
      rw [Nat.gcd_zero_right] at g
      rw [g]
      exact q
    · refine yesOf (decide_eq_true (by omega)) ?_
      have yp : 0 < y := Nat.pos_of_ne_zero y0
      refine ⟨fun σ' H' => σ' = [some (.int y), some (.int ((x % y : Nat) : Int))] ∧ H' = H1, ?_, ?_⟩
      · rintro σ' H' ⟨rfl, rfl⟩
        exact ⟨x % y, Nat.mod_lt _ yp, y, x % y, rfl, rfl, by rw [Nat.gcd_comm, ← Nat.gcd_rec, Nat.gcd_comm]; exact g, rfl⟩
      · refine ⟨.int y, rfl, .int x, rfl, .int y, rfl, x, y, rfl, rfl, (by omega), _, _, rfl, ?_, rfl⟩
        rw [Int.natCast_emod]
        rfl
/-! ### a round -/
abbrev Pck (P : Program) (w : World) (K : PySem.W.Frag) (mg : Str → Option Value) (base : Heap) (k : Nat) (f : Addr) (fd : FuncData) : Prop := FnOk P w K mg base CX0 k f fd ["_law_feed_here", "_law_some"] (spPick K)
theorem scTurn : FnScope ["_law_feed_here"] ["_law_feed_here"] (defScope s_law_turn) := ⟨rfl, rfl, rfl, by decide +kernel, rfl, by decide +kernel, by decide +kernel⟩
def spTurn (K : PySem.W.Frag) : Sp := fun vs H Q _ => ∃ (g : Fed) (n : Nat), vs = [.ref g.f] ∧ FeedAt K H g n ∧ n ≤ 2 ^ 30 ∧ ∀ (t : Nat) H', 0 < t → t ≤ 400 → FeedAt K H' g (n + 4) → Kept g.f H H' → Q (.int t) H'
theorem ok_turn {f fD fP : Addr} {fd fdD fdP : FuncData} {k : Nat} (F : Fun K "_law_turn" "_law_turn" s_law_turn f fd) (FD : Fun K "_law_draw" "_law_draw" s_law_draw fD fdD) (bD : Binds K fdD ["_law_feed_here", "_law_many"] []) (gD : mg "_law_draw" = some (.ref fD))
    (GD : Drw P w K mg base k fD fdD) (FP : Fun K "_law_pick" "_law_pick" s_law_pick fP fdP) (bP : Binds K fdP ["_law_feed_here", "_law_some"] []) (gP : mg "_law_pick" = some (.ref fP)) (GP : Pck P w K mg base k fP fdP) : FnOk P w K mg base CX0 (k + 1) f fd ["_law_feed_here"] (spTurn K) := by
  refine F.ok scTurn (fun vs H Q E h => ?_) (fun cdv A outer s H vs Q E hr h => ?_)
  · obtain ⟨g, n, rfl, _⟩ := h
    rfl
  · obtain ⟨g, n, rfl, fe, hn, q⟩ := h
    refine ⟨_, pss_one (ps_ret (pe_call GP hr rfl gP FP.kp bP .nil pass0 (pa_cons (pv 0) (pa_cons (pe_lst
      (pa_cons (pe_op op_add pe_int (pe_call GD hr rfl gD FD.kp bD .nil pass0 (pa_cons (pv 0) (pa_cons pe_int pa_nil))))
      (pa_cons (pe_op op_mul pe_int (pe_op op_add pe_int (pe_call GD hr rfl gD FD.kp bD .nil pass0 (pa_cons (pv 0) (pa_cons pe_int pa_nil)))))
      (pa_cons (pe_op op_mul pe_int (pe_op op_add pe_int (pe_call GD hr rfl gD FD.kp bD .nil pass0 (pa_cons (pv 0) (pa_cons pe_int pa_nil)))))
      (pa_cons pe_int pa_nil))))) pa_nil)))), ?_⟩
    refine ⟨.ref g.f, rfl, .ref g.f, rfl, g, 400, n, rfl, fe, by omega, by decide, by decide, fun d1 H1 a1 b1 fe1 kp1 => ⟨1, d1, rfl, rfl, ?_⟩⟩
    refine ⟨.ref g.f, rfl, g, 40, n + 1, rfl, fe1, by omega, by decide, by decide, fun d2 H2 a2 b2 fe2 kp2 => ⟨1, d2, rfl, rfl, 2, _, rfl, rfl, .inl ⟨by decide, by decide⟩, ?_⟩⟩
    refine ⟨.ref g.f, rfl, g, 9, n + 1 + 1, rfl, fe2, by omega, by decide, by decide, fun d3 H3 a3 b3 fe3 kp3 => ⟨1, d3, rfl, rfl, 12, _, rfl, rfl, .inl ⟨by decide, by decide⟩, ?_⟩⟩
    refine ⟨(by show 4 ≤ sizeLine; decide), fun l nl => ?_⟩
    refine ⟨g, .ref l, n + 1 + 1 + 1, rfl, fe3.same (same_new nl), by omega, .inr ⟨l, _, rfl, SqL.of upd_same, (by show 0 < 4; decide), (by show 4 ≤ 1000; decide), fun x H4 hx fe4 kp4 => ?_⟩⟩
    have kp := kp1.trans (kp2.trans (kp3.trans ((Kept.of (same_new nl)).trans kp4)))
    have fin : ∀ z : Int, 0 < z → z ≤ 400 → Q (.int z) H4 := by
      intro z z0 z1
      obtain ⟨t, rfl⟩ := Int.eq_ofNat_of_zero_le (show 0 ≤ z by omega)
      exact q t H4 (by omega) (by omega) fe4 kp
    rcases List.mem_cons.mp hx with rfl | hx
    · exact fin _ (by omega) (by omega)
    rcases List.mem_cons.mp hx with rfl | hx
    · exact fin _ (by omega) (by omega)
    rcases List.mem_cons.mp hx with rfl | hx
    · exact fin _ (by omega) (by omega)
    rcases List.mem_cons.mp hx with rfl | hx
    · exact fin _ (by omega) (by omega)
    cases hx
/-! ### whether two are apart -/
def Fine (rs ts : List Nat) (i j : Nat) : Prop := ∀ r s t u : Nat, rs[i]? = some r → rs[j]? = some s → ts[i]? = some t → ts[j]? = some u → ((Nat.gcd t u : Nat) : Int) ∣ (r : Int) - s
abbrev NsAp : List Str := ["_law_rests", "_law_turns", "_law_i", "_law_j"]
theorem scAp : FnScope NsAp ["_law_rests", "_law_turns"] (defScope s_law_all_apart) := ⟨rfl, rfl, rfl, by decide +kernel, rfl, by decide +kernel, by decide +kernel⟩
def spAp (K : PySem.W.Frag) : Sp := fun vs H Q _ => ∃ (a b : Addr) (rs ts : List Nat), vs = [.ref a, .ref b] ∧ SqL K H a (nums rs) ∧ SqL K H b (nums ts) ∧ Good rs ts ∧ (Apart rs ts → Q (.bl true) H) ∧ (¬ Apart rs ts → Q (.bl false) H)
theorem ok_apart {f fG : Addr} {fd fdG : FuncData} {k : Nat} (F : Fun K "_law_all_apart" "_law_all_apart" s_law_all_apart f fd) (FG : Fun K "_law_gcd" "_law_gcd" s_law_gcd fG fdG) (bG : Binds K fdG ["_law_one", "_law_other"] []) (gG : mg "_law_gcd" = some (.ref fG))
    (GG : FnOk P w K mg base CX0 k fG fdG ["_law_one", "_law_other"] spGcd) (ml : mg "len" = none) (mr : mg "range" = none) : FnOk P w K mg base CX0 (k + 1) f fd ["_law_rests", "_law_turns"] (spAp K) := by
  refine F.ok scAp (fun vs H Q E h => ?_) (fun cdv A outer s H vs Q E hr h => ?_)
  · obtain ⟨a, b, rs, ts, rfl, _⟩ := h
    rfl
  · obtain ⟨a, b, rs, ts, rfl, sa, sb, good, qy, qn⟩ := h
    refine ⟨_, pss_cons (ps_for PassesOwn.never rfl (pi_range1 (by rfl) mr (pa_cons (pe_callB call_len_seq (by rfl) ml PySem.boot_len (pa_cons (pv 0) pa_nil)) pa_nil)) (pg_name (i := 2) scAp.nd rfl (Or.inl rfl))
        (pss_one (ps_for PassesOwn.never rfl (pi_range1 (by rfl) mr (pa_cons (pv 2) pa_nil)) (pg_name (i := 3) scAp.nd rfl (Or.inl rfl))
          (pss_one (ps_if (pt_cmpR op_ne (pe_op op_mod (pe_op op_sub (pe_ix ix_list (pv 0) (pv 2) (fun _ _ => rfl)) (pe_ix ix_list (pv 0) (pv 3) (fun _ _ => rfl)))
            (pe_call GG hr rfl gG FG.kp bG .nil pass0 (pa_cons (pe_ix ix_list (pv 1) (pv 2) (fun _ _ => rfl)) (pa_cons (pe_ix ix_list (pv 1) (pv 3) (fun _ _ => rfl)) pa_nil)))) pe_int (nomark _)) (pss_one (ps_ret pe_bl)) pss_nil)))))
      (pss_one (ps_ret pe_bl)), ?_⟩
    have few := good.few
    have len := good.len
    refine ⟨.ref a, rfl, a, _, rfl, .inl sa, ((nums rs).length : Int), rfl, (by rw [nums_len]; omega), (by rw [nums_len]; omega), ?_⟩
    rw [nums_len, Int.toNat_natCast]
    refine for_it (walk_range (lo := 0) (n := rs.length)) (fun i σ H1 => ∃ v2 v3 : Option V, σ = [some (.ref a), some (.ref b), v2, v3] ∧ H1 = H ∧ ∀ i' j, i' < i → j < i' → Fine rs ts i' j) ⟨none, none, rfl, rfl, fun i' j h => absurd h (Nat.not_lt_zero _)⟩ (fun _ _ _ _ _ => trivial) ?_ ?_
    · rintro i x σ H1 H1' hi ⟨v2, v3, rfl, rfl, ok⟩ ⟨rfl, rfl⟩
      refine ⟨.int (0 + (i : Int)), rfl, 0 + (i : Int), rfl, by omega, by omega, ?_⟩
      have tn : (0 + (i : Int)).toNat = i := by omega
      rw [tn]
      refine for_it (walk_range (lo := 0) (n := i)) (fun j σ H2 => ∃ v3 : Option V, σ = [some (.ref a), some (.ref b), some (.int (0 + (i : Int))), v3] ∧ H2 = H1' ∧ ∀ j', j' < j → Fine rs ts i j') ⟨v3, rfl, rfl, fun j h => absurd h (Nat.not_lt_zero _)⟩ (fun _ _ _ _ _ => trivial) ?_ ?_
      · rintro j y σ H2 H2' hj ⟨v3, rfl, rfl, ok2⟩ ⟨rfl, rfl⟩
        have ri := List.getElem?_eq_getElem hi
        have rj := List.getElem?_eq_getElem (show j < rs.length by omega)
        have ti := List.getElem?_eq_getElem (show i < ts.length by omega)
        have tj := List.getElem?_eq_getElem (show j < ts.length by omega)
        generalize rs[i] = r at ri
        generalize rs[j]'(by omega) = s at rj
        generalize ts[i]'(by omega) = t at ti
        generalize ts[j]'(by omega) = u at tj
        have at0 : ∀ {l : List Nat} {m n : Nat}, l[m]? = some n → atI (nums l) (0 + (m : Int)) = some (V.int n) := fun {l m n} h => by
          rw [Int.zero_add]
          exact atI_nat (nums_get h)
        have t0 := good.lo t (List.mem_of_getElem? ti)
        have g0 : 0 < Nat.gcd t u := Nat.gcd_pos_of_pos_left _ t0
        refine ⟨.ref a, rfl, .int (0 + (i : Int)), rfl, a, _, _, _, rfl, rfl, sa, at0 ri, ?_⟩
        refine ⟨.ref a, rfl, .int (0 + (j : Int)), rfl, a, _, _, _, rfl, rfl, sa, at0 rj, _, _, rfl, rfl, ?_⟩
        refine ⟨.ref b, rfl, .int (0 + (i : Int)), rfl, b, _, _, _, rfl, rfl, sb, at0 ti, ?_⟩
        refine ⟨.ref b, rfl, .int (0 + (j : Int)), rfl, b, _, _, _, rfl, rfl, sb, at0 tj, ?_⟩
        refine ⟨t, u, rfl, _, _, rfl, rfl, (by omega), rfl, _, rfl, ?_⟩
        by_cases dv : ((Nat.gcd t u : Nat) : Int) ∣ (r : Int) - s
        · refine noOf (by show (!decide (V.int (((r : Int) - s) % ((Nat.gcd t u : Nat) : Int)) = V.int 0)) = false; rw [Int.emod_eq_zero_of_dvd dv]; rfl) ?_
          refine ⟨_, rfl, rfl, fun j' h => ?_⟩
          rcases Nat.lt_or_ge j' j with lt | ge
          · exact ok2 j' lt
          · have : j' = j := by omega
            subst this
            intro r' s' t' u' e1 e2 e3 e4
            rw [ri] at e1
            rw [rj] at e2
            rw [ti] at e3
            rw [tj] at e4
            cases e1; cases e2; cases e3; cases e4
            exact dv
        · refine yesOf ?_ (qy ⟨i, j, r, s, t, u, hj, ri, rj, ti, tj, dv⟩)
          have n : ¬ V.int (((r : Int) - s) % ((Nat.gcd t u : Nat) : Int)) = V.int 0 := fun z => dv (Int.dvd_of_emod_eq_zero (V.int.inj z))
          show (!decide (V.int (((r : Int) - s) % ((Nat.gcd t u : Nat) : Int)) = V.int 0)) = true
          rw [decide_eq_false n]
          rfl
      · rintro σ H2 ⟨v3, rfl, rfl, ok2⟩
        refine ⟨_, _, rfl, rfl, fun i' j h h2 => ?_⟩
        rcases Nat.lt_or_ge i' i with lt | ge
        · exact ok i' j lt h2
        · have : i' = i := by omega
          subst this
          exact ok2 j h2
    · rintro σ H1 ⟨v2, v3, rfl, rfl, ok⟩
      refine qn ?_
      rintro ⟨i, j, r, s, t, u, hj, e1, e2, e3, e4, n⟩
      exact n (ok i j (List.getElem?_eq_some_iff.mp e1).1 hj r s t u e1 e2 e3 e4)
end
end K78
set_option Elab.async false
set_option linter.all false
set_option maxRecDepth 100000
set_option maxHeartbeats 2000000
set_option exponentiation.threshold 400
/-! Comprehensions that draw; how least_with's arguments bind. -/
namespace K78
open PySem PySem.Spec PyProof.Rows L2 Bp
section
variable {K : PySem.W.Frag}
/-- a comprehension whose items draw -/
theorem lc_feed {α : Type} {J : It} {n : Nat} {G : Hp → Prop} {Y : Nat → Hp → V → Hp → Prop} {gt : TG} {te : TE} {vs : List Nat} {σ : L2.St} {H1 : Hp} {D : Addr} {Qd : Hp → Prop}
    (w : Walk J n G Y) (g : Fed) (n0 c : Nat) (enc : α → V) (R : List α → Prop) (r0 : R []) (few : n ≤ 1000) (fe : FeedAt K H1 g n0) (nD : H1 D = none) (hG : ∀ H, Kept g.f H1 H → FeedAt K H g (n0 + c * n) → G H)
    (step : ∀ i x H H' (l : List α) (Qy : V → Hp → Prop), i < n → l.length = i → R l → Kept g.f H1 H → FeedAt K H g (n0 + c * i) → Y i H x H' → (∀ a H3, R (l ++ [a]) → Kept g.f H H3 → FeedAt K H3 g (n0 + c * (i + 1)) → Qy (enc a) H3) →
      gt x (wipe σ vs) H' fun σ2 H2 => wipe σ2 vs = wipe σ vs ∧ te σ2 H2 Qy)
    (done : ∀ H l, l.length = n → R l → Kept g.f H1 H → FeedAt K H g (n0 + c * n) → H D = some (.lst (l.map enc)) → Qd H)
    (mono : ∀ (v : V) (σ0 : L2.St) (H0 : Hp) (A B : L2.St → Hp → Prop), (∀ s h, A s h → B s h) → gt v σ0 H0 A → gt v σ0 H0 B) :
    ∃ W : Nat → Nat → Hp → Prop, (∃ m, W 0 m (upd H1 D (.lst []))) ∧ ∀ i m H, W i m H →
      (J.stop i H ∧ Qd H) ∨ (J.go i H ∧ ∃ Nx : Hp → Prop, (∀ H', Nx H' → ∃ m', m' < m ∧ W (i + 1) m' H') ∧ ∀ x H', J.yld i H x H' → gt x (wipe σ vs) H' fun σ2 H2 => wipe σ2 vs = wipe σ vs ∧ tYes σ2 H2 fun b H3 =>
        if b = true then te σ2 H3 fun y H4 => ∃ acc, H4 D = some (.lst acc) ∧ acc.length < sizeLine ∧ Nx (upd H4 D (.lst (acc ++ [y]))) else Nx H3) := by
  have nf := fe.ne nD
  refine lc_it w (fun i H => ∃ l : List α, l.length = i ∧ R l ∧ Kept g.f H1 H ∧ FeedAt K H g (n0 + c * i) ∧ H D = some (.lst (l.map enc))) ⟨[], rfl, r0, Kept.of (same_new nD), fe.same (same_new nD), upd_same⟩ ?_ ?_ ?_
  · rintro i H hi ⟨l, _, _, kp, f, _⟩
    exact hG H kp (f.le (Nat.add_le_add_left (Nat.mul_le_mul_left c hi) n0))
  · rintro i x H H' hi ⟨l, hl, hr, kp, f, hD⟩ y
    refine mono _ _ _ _ _ (fun s h z => ⟨z.1, yes_kept z.2⟩) (step i x H H' l _ hi hl hr kp f y fun a H3 r3 k3 f3 => ?_)
    refine ⟨l.map enc, k3 _ _ nf hD, ?_, l ++ [a], by rw [List.length_append, hl]; rfl, r3, ?_, fe.put nD f3, ?_⟩
    · rw [List.length_map]
      exact small1000 (by omega)
    · exact fun b o nb e => by
        rw [upd_ne (ne_of_none e nD)]
        exact k3 _ _ nb (kp b o nb e)
    · rw [upd_same, List.map_append]
      rfl
  · rintro H ⟨l, hl, hr, kp, f, hD⟩
    exact done H l hl hr kp f hD
variable {f : Addr} {fd : FuncData}
theorem kb_least (F : FDl K "least_with" "least_with" s_least_with [] [("least", .int 0)] f fd) : ∃ mv : List Value, KBn K fd ["rests", "rounds", "least"] 2 ["least"] (fun us ws => us ++ ws) (fun vs zs => vs ++ zs) := by
  refine FunD.kbinds0 F 2 ["least"] [] (fun us _ ws => us ++ ws) (by intro h; cases h) (fun q h => by cases h) (fun a _ c => a.append c) ?_
  intro D doc pm an cdv ct us mv ws hu hm hw
  match us, mv, ws, hu, hm, hw with
  | [_, _], [], [_], _, _, _ => exact rfl
theorem b_least (F : FDl K "least_with" "least_with" s_least_with [] [("least", .int 0)] f fd) : ∃ ds, Vals [V.int 0] ds ∧ Binds K fd ["rests", "rounds", "least"] ds := by
  refine FunD.binds0 (ps := ["rests", "rounds", "least"]) F 2 (by intro h; cases h) rfl ?_
  intro D doc pm an cdv ct us ks hu hk
  match us, ks, hu, hk with
  | [_, _], [_], _, _ => exact ⟨_, _, _, _, _, _, rfl, rfl, rfl⟩
end
end K78
set_option Elab.async false
set_option linter.all false
set_option maxRecDepth 100000
set_option maxHeartbeats 4000000
set_option exponentiation.threshold 400
/-! The law itself. -/
namespace K78
open PySem PySem.Spec PyProof.Rows L2 Bp
section
variable {P : Program} {w : World} {K : PySem.W.Frag} {mg : Str → Option Value} {base : Heap}
/-- a def of the text, as it is called -/
structure Def (P : Program) (w : World) (K : PySem.W.Frag) (mg : Str → Option Value) (base : Heap) (CX : CXT) (k : Nat) (x : Str) (st : Stmt) (ps : List Str) (sp : Sp) : Prop where
  ex : ∃ (f : Addr) (fd : FuncData), Fun K x x st f fd ∧ Binds K fd ps [] ∧ mg x = some (.ref f) ∧ FnOk P w K mg base CX k f fd ps sp
structure DefL (P : Program) (w : World) (K : PySem.W.Frag) (mg : Str → Option Value) (base : Heap) (k : Nat) : Prop where
  ex : ∃ (f : Addr) (fd : FuncData), FDl K "least_with" "least_with" s_least_with [] [("least", .int 0)] f fd ∧ mg "least_with" = some (.ref f) ∧ FnOk P w K mg base CX0 k f fd ["rests", "rounds", "least"] (spLw K)
structure Blt (mg : Str → Option Value) : Prop where
  len : mg "len" = none
  rng : mg "range" = none
  tup : mg "tuple" = none
  zip : mg "zip" = none
  abs : mg "abs" = none
  gcd : mg "gcd" = some (.builtin "math.gcd")
abbrev Ns : List Str := ["_law_script", "_law_feed_here", "_law_turn_here", "_law_turns", "_law_number", "_law_one", "_law_rests", "_law_start", "_law_told", "_law_step", "_law_bad", "_law_k"]
theorem scLaw : FnScope Ns ["_law_script"] (defScope s_law) := ⟨rfl, rfl, rfl, by decide +kernel, rfl, by decide +kernel, by decide +kernel⟩
def spLaw (K : PySem.W.Frag) : Sp := fun vs H Q _ => ∃ (a : Addr) (ns : List Int), vs = [.ref a] ∧ SqL K H a (ns.map V.int) ∧ ns.length ≤ 1000 ∧ ∀ H', Q (.bl true) H'
theorem ok_law {k : Nat} (B : Blt mg) (DF : Def P w K mg base CX0 (k + 1) "_law_feed" s_law_feed ["_law_script"] (spFeed K)) (DD : Def P w K mg base CX0 (k + 1) "_law_draw" s_law_draw ["_law_feed_here", "_law_many"] (spDraw K))
    (DP : Def P w K mg base CX0 (k + 1) "_law_pick" s_law_pick ["_law_feed_here", "_law_some"] (spPick K)) (DG : Def P w K mg base CX0 (k + 1) "_law_gcd" s_law_gcd ["_law_one", "_law_other"] spGcd)
    (DT : Def P w K mg base CX0 (k + 1) "_law_turn" s_law_turn ["_law_feed_here"] (spTurn K)) (DA : Def P w K mg base CX0 (k + 1) "_law_all_apart" s_law_all_apart ["_law_rests", "_law_turns"] (spAp K)) (DL : DefL P w K mg base (k + 1))
    {f : Addr} {fd : FuncData} (F : Fun K "law" "law" s_law f fd) : FnOk P w K mg base CX0 (k + 2) f fd ["_law_script"] (spLaw K) := by
  obtain ⟨fF, fdF, FF, bF, gF, GF⟩ := DF.ex
  obtain ⟨fD, fdD, FD, bD, gD, GD⟩ := DD.ex
  obtain ⟨fP, fdP, FP, bP, gP, GP⟩ := DP.ex
  obtain ⟨fG, fdG, FG, bG, gG, GG⟩ := DG.ex
  obtain ⟨fT, fdT, FT, bT, gT, GT⟩ := DT.ex
  obtain ⟨fA, fdA, FA, bA, gA, GA⟩ := DA.ex
  obtain ⟨fL, fdL, FL, gL, GL⟩ := DL.ex
  obtain ⟨mv, kL⟩ := kb_least FL
  obtain ⟨ds, hds, bL⟩ := b_least FL
  refine F.ok scLaw (fun vs H Q E h => ?_) (fun cdv A outer sh H vs Q E hr h => ?_)
  · obtain ⟨a, ns, rfl, _⟩ := h
    rfl
  · obtain ⟨a, ns, rfl, hS, few, q⟩ := h
    have ml := B.len
    have mr := B.rng
    have hu64 : A.units + 3 + 64 < cLine := hr.units
    refine ⟨_, pss_cons (ps_set (i := 1) scLaw.nd rfl (.inr rfl) (pe_call GF hr rfl gF FF.kp bF .nil pass0 (pa_cons (pv 0) pa_nil)))
      (pss_cons (ps_for PassesOwn.never rfl (pi_range1 (by rfl) mr (pa_cons pe_int pa_nil)) (pg_name (i := 2) scLaw.nd rfl (Or.inl rfl))
        (pss_cons (ps_set (i := 3) scLaw.nd rfl (.inr rfl) (pe_lc (own := [("_law_k", 11)]) (g := gName 11) (tt := tYes) rfl scLaw.nd (pi_range1 (by rfl) mr (pa_cons (pe_call GD hr rfl gD FD.kp bD .nil pass0 (pa_cons (pv 1) (pa_cons pe_int pa_nil))) pa_nil))
            (blkOk_by (own := [("_law_k", 11)]) (N := Ns) (sc := defScope s_law) (by decide +kernel)) (fun _ _ _ _ _ => pg_name (i := 11) scLaw.nd rfl (Or.inl rfl)) (fun _ _ _ _ _ => pts_nil)
            (fun _ _ _ _ _ => pe_call GT hr rfl gT FT.kp bT .nil pass0 (pa_cons (pv 1) pa_nil))))
        (pss_cons (ps_set (i := 4) scLaw.nd rfl (.inr rfl) (pe_call GD hr rfl gD FD.kp bD .nil pass0 (pa_cons (pv 1) (pa_cons (pe_op op_pow pe_int pe_int) pa_nil))))
        (pss_cons (ps_set (i := 6) scLaw.nd rfl (.inr rfl) (pe_lc (own := [("_law_one", 5)]) (g := gName 5) (tt := tYes) rfl scLaw.nd (pi_list (pv 3))
            (blkOk_by (own := [("_law_one", 5)]) (N := Ns) (sc := defScope s_law) (by decide +kernel)) (fun _ _ _ _ _ => pg_name (i := 5) scLaw.nd rfl (Or.inl rfl)) (fun _ _ _ _ _ => pts_nil)
            (fun _ _ _ _ _ => pe_call GP hr rfl gP FP.kp bP .nil pass0 (pa_cons (pv 1) (pa_cons (pe_lst (pa_cons (pe_op op_mod (pv 4) (pv 5)) (pa_cons (pe_op op_mod (pv 4) (pv 5)) (pa_cons (pe_op op_mod (pv 4) (pv 5))
              (pa_cons (pe_call GD hr rfl gD FD.kp bD .nil pass0 (pa_cons (pv 1) (pa_cons (pv 5) pa_nil))) pa_nil))))) pa_nil)))))
        (pss_cons (ps_set (i := 7) scLaw.nd rfl (.inl rfl) (pe_call GP hr rfl gP FP.kp bP .nil pass0 (pa_cons (pv 1) (pa_cons (pe_lst (pa_cons pe_int
            (pa_cons (pe_call GD hr rfl gD FD.kp bD .nil pass0 (pa_cons (pv 1) (pa_cons (pe_op op_mul pe_int (pe_op op_pow pe_int pe_int)) pa_nil)))
            (pa_cons (pe_op op_sub (pe_op op_pow pe_int pe_int) (pe_call GD hr rfl gD FD.kp bD .nil pass0 (pa_cons (pv 1) (pa_cons (pe_op op_pow pe_int pe_int) pa_nil)))) pa_nil)))) pa_nil))))
        (pss_cons (ps_set (i := 8) scLaw.nd rfl (.inr rfl) (pe_callN GL hr rfl gL FL.kp kL pass0 (pa_cons (pe_callTy call_tuple_of (by rfl) B.tup (by decide +kernel) (pa_cons (pv 6) pa_nil)) (pa_cons (pe_callTy call_tuple_of (by rfl) B.tup (by decide +kernel) (pa_cons (pv 3) pa_nil)) pa_nil)) (pk_cons (pv 7) pk_nil)))
        (pss_cons (ps_if (pt_cmpR op_ne (pe_cmpR op_isN (pv 8) pe_non (by rfl)) (pe_call GA hr rfl gA FA.kp bA .nil pass0 (pa_cons (pv 6) (pa_cons (pv 3) pa_nil))) (nomark _)) (pss_one (ps_ret pe_bl)) pss_nil)
        (pss_cons (ps_if (pt_cmpR op_notN (pv 8) pe_non (by rfl))
          (pss_cons (ps_set (i := 9) scLaw.nd rfl (.inl rfl) pe_int)
          (pss_cons (ps_for PassesOwn.never rfl (pi_list (pv 3)) (pg_name (i := 5) scLaw.nd rfl (Or.inl rfl))
            (pss_one (ps_set (i := 9) scLaw.nd rfl (.inl rfl) (pe_op op_fdiv (pe_op op_mul (pv 9) (pv 5)) (pe_call GG hr rfl gG FG.kp bG .nil pass0 (pa_cons (pv 9) (pa_cons (pv 5) pa_nil)))))))
          (pss_cons (ps_setLc (i := 10) (own := [("_law_k", 11)]) (g := gName 11) rfl scLaw.nd rfl rfl (sw_true rfl rfl rfl (by decide +kernel)) (pi_range1 (by rfl) mr (pa_cons (pe_callB call_len_seq (by rfl) ml PySem.boot_len (pa_cons (pv 3) pa_nil)) pa_nil))
            (blkOk_by (own := [("_law_k", 11)]) (N := Ns) (sc := defScope s_law) (by decide +kernel)) (fun _ _ _ _ _ => pg_name (i := 11) scLaw.nd rfl (Or.inl rfl))
            (fun _ _ _ _ _ => pts_one (pt_cmpR op_ne (pe_op op_mod (pv 8) (pe_ix (show IxR _ (rIxL K) from ix_list) (pv 3) (pv 11) (fun _ _ => rfl))) (pe_ix (show IxR _ (rIxL K) from ix_list) (pv 6) (pv 11) (fun _ _ => rfl)) (nomark _))) (fun _ _ _ _ _ => pv 11))
          (pss_one (ps_if (PW.pt (pw_or (pt_cmpR (op_neD hu64) (pv 10) (pe_lst pa_nil) (nomark _)) (pw_or1 (pt_not (pt_chain op_le op_lt (pv 7) (pv 8) (pe_op op_add (pv 7) (pv 9))))))) (pss_one (ps_ret pe_bl)) pss_nil)))))
          pss_nil)
        (pss_one (ps_if (PW.pt (pw_and (pt_cmpR op_eq (pv 7) pe_int (nomark _)) (pw_and1 (pt_cmpR op_ne (pe_call GL hr rfl gL FL.kp bL hds pass0 (pa_cons (pv 6) (pa_cons (pv 3) pa_nil))) (pv 8) (nomark _))))) (pss_one (ps_ret pe_bl)) pss_nil))))))))))
      (pss_one (ps_ret (pe_and (pe_cmpR op_eq (pe_callN GL hr rfl gL FL.kp kL pass0 (pa_cons (pe_lst pa_nil) (pa_cons (pe_lst pa_nil) pa_nil)) (pk_cons pe_int pk_nil)) pe_int (nomark _))
        (pe_one (pe_cmpR op_eq (pe_call GL hr rfl gL FL.kp bL hds pass0 (pa_cons (pe_lst pa_nil) (pa_cons (pe_lst pa_nil) pa_nil))) pe_int (nomark _))))))), ?_⟩
    refine ⟨.ref a, rfl, a, ns, rfl, hS, few, fun H0 g ng fe0 sm0 => ?_⟩
    refine ⟨5, rfl, by decide, by decide, ?_⟩
    have e5 : (5 : Int).toNat = 5 := rfl
    rw [e5]
    have e9 : (10 : Int) ^ (9 : Int).toNat = 1000000000 := by decide
    refine for_it (walk_range (lo := 0) (n := 5)) (fun i σ H1 => ∃ v2 v3 v4 v5 v6 v7 v8 v9 v10 : Option V, σ = [some (.ref a), some (.ref g.f), v2, v3, v4, v5, v6, v7, v8, v9, v10, none] ∧ FeedAt K H1 g (50 * i)) ⟨none, none, none, none, none, none, none, none, none, rfl, fe0⟩ (fun _ _ _ _ _ => trivial) ?_ ?_
    · rintro i x σ H1 H1' hi ⟨v2, v3, v4, v5, v6, v7, v8, v9, v10, rfl, fe1⟩ ⟨rfl, rfl⟩
      refine ⟨.ref g.f, rfl, g, 6, 50 * i, rfl, fe1, by omega, by decide, by decide, fun d H2 d0 d1 fe2 kp2 => ?_⟩
      obtain ⟨m, rfl⟩ := Int.eq_ofNat_of_zero_le d0
      refine ⟨m, rfl, by omega, by omega, fun D nD => ?_⟩
      have tn : (m : Int).toNat = m := Int.toNat_natCast _
      rw [tn]
      refine lc_feed (walk_range (lo := 0) (n := m)) g (50 * i + 1) 4 (fun t : Nat => V.int (t : Int)) (fun ts => ∀ t ∈ ts, 0 < t ∧ t ≤ 400) (by simp) (by omega) fe2 nD (fun _ _ _ => trivial) ?_ ?_ mono_name
      · rintro j y H3 H3' l Qy hj hl hR kp3 fe3 ⟨rfl, rfl⟩ qy
        refine ⟨rfl, ?_⟩
        refine ⟨.ref g.f, rfl, g, 50 * i + 1 + 4 * j, rfl, fe3, by omega, fun t H4 t0 t4 fe4 kp4 => qy t H4 (fun u hu => ?_) kp4 fe4⟩
        rcases List.mem_append.mp hu with hu | hu
        · exact hR u hu
        · rw [List.mem_singleton.mp hu]
          exact ⟨t0, t4⟩
      · intro H3 ts hts hR kp3 fe3 hD
        refine ⟨.ref g.f, rfl, 10, 9, rfl, rfl, ⟨by decide, by decide, by decide⟩, g, _, 50 * i + 1 + 4 * m, rfl, fe3, by omega, by decide, by decide, fun num H4 n0 n1 fe4 kp4 => ?_⟩
        obtain ⟨kvs3, ek3⟩ := fe3.dict
        have nDf : D ≠ g.f := ne_of hD ek3 (by intro z; cases z)
        have hD4 := kp4 _ _ nDf hD
        refine ⟨.ref D, rfl, D, rfl, ⟨_, SqL.of hD4⟩, fun D2 nD2 => ?_⟩
        obtain ⟨kvs4, ek4⟩ := fe4.dict
        refine lc_feed (walk_list (K := K) (a := D) (xs := nums ts)) g (50 * i + 1 + 4 * m + 1) 2 (fun t : Nat => V.int (t : Int)) (fun rs => rs.length ≤ ts.length ∧ ∀ (i r t : Nat), rs[i]? = some r → ts[i]? = some t → r < t) ⟨Nat.zero_le _, by simp⟩ (by rw [nums_len]; omega) fe4 nD2
          (fun H kp _ => kp.seq ek4 (SqL.of hD4)) ?_ ?_ mono_name
        · rintro j y H5 H5' l Qy hj hl hRl kp5 fe5 ⟨rfl, hy⟩ qy
          rw [nums_len] at hj
          obtain ⟨t, et, rfl⟩ := nums_of hy
          obtain ⟨t0, t4⟩ := hR t (List.mem_of_getElem? et)
          refine ⟨rfl, ?_⟩
          refine ⟨.ref g.f, rfl, .int num, rfl, .int t, rfl, num, t, rfl, rfl, (by omega), .int num, rfl, .int t, rfl, num, t, rfl, rfl, (by omega), .int num, rfl, .int t, rfl, num, t, rfl, rfl, (by omega), ?_⟩
          refine ⟨.ref g.f, rfl, .int t, rfl, g, t, 50 * i + 1 + 4 * m + 1 + 2 * j, rfl, fe5, by omega, (by omega), ?_, fun d H6 d0 d1 fe6 kp6 => ?_⟩
          · exact Nat.lt_of_le_of_lt (show (t : Int).natAbs ≤ 400 by omega) (by decide)
          refine ⟨(by show 4 ≤ sizeLine; decide), fun l2 nl2 => ?_⟩
          refine ⟨g, .ref l2, 50 * i + 1 + 4 * m + 1 + 2 * j + 1, rfl, fe6.same (same_new nl2), by omega, .inr ⟨l2, _, rfl, SqL.of upd_same, (by show 0 < 4; decide), (by show 4 ≤ 1000; decide), fun x H7 hx fe7 kp7 => ?_⟩⟩
          have fin : ∀ z : Int, 0 ≤ z → z < t → Qy (.int z) H7 := by
            intro z z0 z1
            obtain ⟨r, rfl⟩ := Int.eq_ofNat_of_zero_le z0
            refine qy r H7 ⟨?_, ?_⟩ (kp6.trans ((Kept.of (same_new nl2)).trans kp7)) (fe7.le (by omega))
            · rw [List.length_append, hl]
              show j + 1 ≤ ts.length
              omega
            · intro i' r' t' e1 e2
              rcases Nat.lt_or_ge i' l.length with lt | ge
              · rw [List.getElem?_append_left lt] at e1
                exact hRl.2 i' r' t' e1 e2
              · rw [List.getElem?_append_right ge] at e1
                have i0 : i' - l.length = 0 := by
                  have := (List.getElem?_eq_some_iff.mp e1).1
                  simp at this
                  omega
                rw [i0] at e1
                have : i' = j := by omega
                subst this
                rw [et] at e2
                cases e1
                cases e2
                omega
          have m0 := Int.emod_nonneg num (b := (t : Int)) (by omega)
          have m1 := Int.emod_lt_of_pos num (b := (t : Int)) (by omega)
          rcases List.mem_cons.mp hx with rfl | hx
          · exact fin _ m0 m1
          rcases List.mem_cons.mp hx with rfl | hx
          · exact fin _ m0 m1
          rcases List.mem_cons.mp hx with rfl | hx
          · exact fin _ m0 m1
          rcases List.mem_cons.mp hx with rfl | hx
          · exact fin _ d0 d1
          cases hx
        · rw [nums_len]
          intro H5 rs hrs hRr kp5 fe5 hD2
          have good : Good rs ts := ⟨hrs, by omega, fun t ht => (hR t ht).1, fun t ht => (hR t ht).2, hRr.2⟩
          have hD5 := kp5 _ _ nDf hD4
          obtain ⟨kvs5, ek5⟩ := fe5.dict
          have nD2f : D2 ≠ g.f := ne_of hD2 ek5 (by intro z; cases z)
          -- where one starts
          refine ⟨.ref g.f, rfl, .ref g.f, rfl, 10, 9, rfl, rfl, ⟨by decide, by decide, by decide⟩, 2, _, rfl, rfl, .inl ⟨by decide, by decide⟩, g, _, 50 * i + 1 + 4 * m + 1 + 2 * ts.length, rfl, fe5, by omega, by decide, by decide, fun d1 H6 d10 d11 fe6 kp6 => ?_⟩
          refine ⟨10, 60, rfl, rfl, ⟨by decide, by decide, by decide⟩, .ref g.f, rfl, 10, 9, rfl, rfl, ⟨by decide, by decide, by decide⟩, g, _, 50 * i + 1 + 4 * m + 1 + 2 * ts.length + 1, rfl, fe6, by omega, by decide, by decide, fun d2 H7 d20 d21 fe7 kp7 => ⟨_, _, rfl, rfl, ?_⟩⟩
          refine ⟨(by show 3 ≤ sizeLine; decide), fun l2 nl2 => ?_⟩
          refine ⟨g, .ref l2, 50 * i + 1 + 4 * m + 1 + 2 * ts.length + 1 + 1, rfl, fe7.same (same_new nl2), by omega, .inr ⟨l2, _, rfl, SqL.of upd_same, (by show 0 < 3; decide), (by show 3 ≤ 1000; decide), fun x H8 hx fe8 kp8 => ?_⟩⟩
          obtain ⟨st, rfl⟩ : ∃ st : Int, x = .int st := by
            rcases List.mem_cons.mp hx with rfl | hx
            · exact ⟨_, rfl⟩
            rcases List.mem_cons.mp hx with rfl | hx
            · exact ⟨_, rfl⟩
            rcases List.mem_cons.mp hx with rfl | hx
            · exact ⟨_, rfl⟩
            cases hx
          have kp := kp6.trans (kp7.trans ((Kept.of (same_new nl2)).trans kp8))
          have hD8 := kp _ _ nDf hD5
          have hE8 := kp _ _ nD2f hD2
          clear hx
          refine ⟨.ref D2, rfl, D2, _, rfl, .inl ⟨SqL.of hE8, fun T1 nT1 => ?_⟩⟩
          have s1 := same_new (o := .tup (nums rs)) nT1
          refine ⟨.ref D, rfl, D, _, rfl, .inl ⟨SqL.of (s1 _ _ hD8), fun T2 nT2 => ?_⟩⟩
          have s2 := s1.trans (same_new (o := .tup (nums ts)) nT2)
          have tT1 := same_new (o := .tup (nums ts)) nT2 _ _ (upd_same (H := H8) (a := T1) (o := .tup (nums rs)))
          refine ⟨.int st, rfl, rfl, rfl, T1, T2, st, rs, ts, false, rfl, ⟨SqT.of tT1, SqT.of upd_same⟩, good, fun H9 s9 ap => ?_, fun H9 rest s9 lv => ?_⟩
          · -- two are apart
            have sm := s2.trans s9
            have hD9 := sm _ _ hD8
            have hE9 := sm _ _ hE8
            refine ⟨.non, rfl, rfl, .ref D2, rfl, .ref D, rfl, D2, D, rs, ts, rfl, SqL.of hE9, SqL.of hD9, good, fun _ => ⟨rfl, _, rfl, noOf rfl ?_⟩, fun n => absurd ap n⟩
            refine ⟨.non, rfl, rfl, _, rfl, noOf rfl ?_⟩
            refine ⟨.int st, rfl, rfl, _, rfl, ite2 (fun c => ?_) (fun c => ?_)⟩
            · refine ⟨.ref D2, rfl, .ref D, rfl, D2, D, 0, rs, ts, true, rfl, ⟨SqL.of hE9, SqL.of hD9⟩, good, fun H6 s6 _ => ⟨.non, rfl, rfl, _, rfl, noOf rfl ?_⟩, fun H6 rest s6 lv => absurd ap lv.not_apart⟩
              exact ⟨_, _, _, _, _, _, _, _, _, rfl, (fe8.same (sm.trans s6)).le (by omega)⟩
            · exact ⟨_, _, _, _, _, _, _, _, _, rfl, (fe8.same sm).le (by omega)⟩
          · have sm := s2.trans s9
            have hD9 := sm _ _ hD8
            have hE9 := sm _ _ hE8
            have nap := lv.not_apart
            obtain ⟨k1, k2, k3⟩ := told_ok (least := st) lv good.lo good.lt good.len
            have tell : ∀ rest2, Leaves rest2 rs ts → (rest2 - st) % (lcmL ts : Int) = (rest - st) % (lcmL ts : Int) := fun rest2 l2 => same_told good.len l2 lv
            generalize hz : st + (rest - st) % (lcmL ts : Int) = z at k1 k2 k3
            refine ⟨.int z, rfl, rfl, .ref D2, rfl, .ref D, rfl, D2, D, rs, ts, rfl, SqL.of hE9, SqL.of hD9, good, fun ap => absurd ap nap, fun _ => ⟨rfl, _, rfl, noOf rfl ?_⟩⟩
            refine ⟨.int z, rfl, rfl, _, rfl, yesOf rfl ?_⟩
            refine ⟨.ref D, rfl, D, rfl, ⟨_, SqL.of hD9⟩, ?_⟩
            refine for_it (walk_list (K := K) (a := D) (xs := nums ts)) (fun j σ H6 => ∃ v5 : Option V, σ = [some (.ref a), some (.ref g.f), some (.int (0 + (i : Int))), some (.ref D), some (.int num), v5, some (.ref D2), some (.int st), some (.int z), some (.int (lcmL (ts.take j) : Nat)), v10, none] ∧ H6 = H9) ⟨v5, rfl, rfl⟩ (fun j σ H6 _ hp => by obtain ⟨_, _, rfl⟩ := hp; exact SqL.of hD9) ?_ ?_
            · rintro j y σ H6 H6' hj ⟨v5, rfl, rfl⟩ ⟨rfl, hy⟩
              obtain ⟨t, et, rfl⟩ := nums_of hy
              obtain ⟨t0, t4⟩ := hR t (List.mem_of_getElem? et)
              have gp : 0 < Nat.gcd (lcmL (ts.take j)) t := Nat.gcd_pos_of_pos_right _ t0
              have gle : Nat.gcd (lcmL (ts.take j)) t ≤ t := Nat.le_of_dvd t0 (Nat.gcd_dvd_right _ _)
              refine ⟨.int (lcmL (ts.take j) : Nat), rfl, .int t, rfl, _, _, rfl, rfl, .inr ⟨by omega, by omega⟩, .int (lcmL (ts.take j) : Nat), rfl, .int t, rfl, lcmL (ts.take j), t, rfl, _, _, rfl, rfl, ⟨by omega, by omega⟩, ?_⟩
              have e : lcmL (ts.take (j + 1)) = Nat.lcm (lcmL (ts.take j)) t := by
                rw [List.take_add_one, et]
                exact lcmL_snoc _ _
              refine ⟨some (.int t), ?_, rfl⟩
              rw [e, ← lcm_int]
              rfl
            · rintro σ HX ⟨v5, rfl, rfl⟩
              rw [nums_len, List.take_length]
              refine ⟨.ref D, rfl, D, _, rfl, .inl (SqL.of hD9), ((nums ts).length : Int), rfl, (by rw [nums_len]; omega), (by rw [nums_len]; omega), fun D3 nD3 => ?_⟩
              have tl : ((nums ts).length : Int).toNat = ts.length := by rw [nums_len, Int.toNat_natCast]
              rw [tl]
              refine lc_it (walk_range (lo := 0) (n := ts.length)) (fun j H6 => Same HX H6 ∧ H6 D3 = some (.lst [])) ⟨same_new nD3, upd_same⟩ (fun _ _ _ _ => trivial) ?_ ?_
              · rintro j y H6 H7' hj ⟨s6, e3⟩ ⟨rfl, rfl⟩
                have ej : ts[j]? = some ts[j] := List.getElem?_eq_getElem hj
                have erj : rs[j]? = some (rs[j]'(by omega)) := List.getElem?_eq_getElem (by omega)
                have t0 := hR _ (List.getElem_mem hj)
                have kk := k1 j _ _ erj ej
                generalize ts[j] = t at ej t0 kk
                generalize rs[j]'(by omega) = r at erj kk
                have at0 : ∀ {l : List Nat} {m n : Nat}, l[m]? = some n → atI (nums l) (0 + (m : Int)) = some (V.int n) := fun {l m n} h => by
                  rw [Int.zero_add]
                  exact atI_nat (nums_get h)
                refine ⟨rfl, .int z, rfl, .ref D, rfl, .int (0 + (j : Int)), rfl, D, _, _, _, rfl, rfl, SqL.of (s6 _ _ hD9), at0 ej, _, _, rfl, rfl, (by omega), .ref D2, rfl, .int (0 + (j : Int)), rfl, D2, _, _, _, rfl, rfl, SqL.of (s6 _ _ hE9), at0 erj, rfl, _, rfl, noOf ?_ ⟨s6, e3⟩⟩
                show (!decide (V.int (z % (t : Int)) = V.int r)) = false
                rw [kk, decide_eq_true rfl]
                rfl
              · rintro H6 ⟨s6, e3⟩
                refine ⟨.ref D3, rfl, (by show 0 ≤ sizeLine; decide), fun l3 nl3 => ?_⟩
                have e4 := same_new (o := .lst []) nl3 _ _ e3
                refine ⟨_, _, dp_ints (ns := []) (SqL.of e4), dp_ints (ns := []) (SqL.of upd_same), shaped_ints [], shaped_ints [], _, rfl, noOf (by rfl) ?_⟩
                have s7 := s6.trans (same_new (o := .lst []) nl3)
                have hD7 := s7 _ _ hD9
                have hE7 := s7 _ _ hE9
                refine ⟨.int st, rfl, .int z, rfl, st, z, rfl, rfl, _, rfl, yesOf (decide_eq_true k2) ?_⟩
                refine ⟨.int st, rfl, .int (lcmL ts : Nat), rfl, st, _, rfl, rfl, z, _, rfl, rfl, _, rfl, noOf (by show (!decide (z < st + (lcmL ts : Int))) = false; rw [decide_eq_true k3]; rfl) ?_⟩
                have fe9 := fe8.same (sm.trans s7)
                refine ⟨.int st, rfl, rfl, _, rfl, ite2 (fun c => ?_) (fun c => ?_)⟩
                · have st0 : st = 0 := V.int.inj (of_decide_eq_true c)
                  subst st0
                  refine ⟨.ref D2, rfl, .ref D, rfl, D2, D, 0, rs, ts, true, rfl, ⟨SqL.of hE7, SqL.of hD7⟩, good, fun H8' s8 ap => absurd ap nap, fun H8' rest2 s8 l2 => ⟨.int z, rfl, rfl, _, rfl, noOf ?_ ?_⟩⟩
                  · rw [tell rest2 l2, hz, decide_eq_true rfl]
                    rfl
                  · exact ⟨_, _, _, _, _, _, _, _, _, rfl, (fe9.same s8).le (by omega)⟩
                · exact ⟨_, _, _, _, _, _, _, _, _, rfl, fe9.le (by omega)⟩
    · rintro σ H1 ⟨v2, v3, v4, v5, v6, v7, v8, v9, v10, rfl, fe1⟩
      have good0 : Good [] [] := ⟨rfl, by decide, by simp, by simp, by simp⟩
      have no0 : ¬ Apart [] [] := (leaves_none 0).not_apart
      refine ⟨(by show 0 ≤ sizeLine; decide), fun l1 n1 => ⟨(by show 0 ≤ sizeLine; decide), fun l2 n2 => ?_⟩⟩
      refine ⟨rfl, rfl, l1, l2, 17, [], [], true, rfl, ⟨SqL.of (same_new n2 _ _ upd_same), SqL.of upd_same⟩, good0, fun _ _ ap => absurd ap no0, fun H2 rest s2 lv => ⟨rfl, _, rfl, yesOf ?_ ?_⟩⟩
      · show decide (V.int (17 + (rest - 17) % ((1 : Nat) : Int)) = V.int 17) = true
        rw [show ((1 : Nat) : Int) = 1 from rfl, Int.emod_one]
        rfl
      · refine ⟨(by show 0 ≤ sizeLine; decide), fun l3 n3 => ⟨(by show 0 ≤ sizeLine; decide), fun l4 n4 => ?_⟩⟩
        refine ⟨l3, l4, 0, [], [], true, rfl, ⟨SqL.of (same_new n4 _ _ upd_same), SqL.of upd_same⟩, good0, fun _ _ ap => absurd ap no0, fun H3 rest s3 lv => ⟨rfl, ?_⟩⟩
        have e : decide (V.int (0 + (rest - 0) % ((1 : Nat) : Int)) = V.int 0) = true := by
          rw [show ((1 : Nat) : Int) = 1 from rfl, Int.emod_one]
          rfl
        show Q (.bl (decide (V.int (0 + (rest - 0) % ((1 : Nat) : Int)) = V.int 0))) H3
        rw [e]
        exact q H3
end
end K78
set_option Elab.async false
set_option linter.all false
set_option maxRecDepth 100000
set_option maxHeartbeats 2000000
set_option exponentiation.threshold 400
/-! What the top has written. -/
namespace K78
open PySem PySem.Spec PyProof.Rows L2 Bp
/-- a def of the text stands at the top -/
structure Is (K : PySem.W.Frag) (x : Str) (st : Stmt) : Prop where
  ex : ∃ (f : Addr) (fd : FuncData), PySem.W.nsIn K mainGlobals x = some (some (.ref f)) ∧ Fun K x x st f fd
theorem is_mk {K : PySem.W.Frag} {x : Str} {st : Stmt} {f : Addr} {oc : Value} {od an : Option Addr} {osl : Array (Option Value)} {kV doc pm cdv ct : Value} (a : PySem.W.nsIn K mainGlobals x = some (some (.ref f)))
    (l : K.lookup f = some ⟨oc, od, .func (PySem.W.fnOf x x (defArgs st) (defBody st) (defScope st) .none kV doc pm an cdv ct), osl⟩) (c : PySem.W.codeIn K cdv x = true) (k : PySem.W.keepIn K (.ref f) = true) : Is K x st := ⟨⟨f, _, a, fun_mk l c k⟩⟩
/-- .. and one with a keyword that has a worth -/
structure IsL (K : PySem.W.Frag) : Prop where
  ex : ∃ (f : Addr) (fd : FuncData), PySem.W.nsIn K mainGlobals "least_with" = some (some (.ref f)) ∧ FDl K "least_with" "least_with" s_least_with [] [("least", .int 0)] f fd
theorem isL_mk {K : PySem.W.Frag} {f D : Addr} {oc : Value} {od an : Option Addr} {osl : Array (Option Value)} {doc pm cdv ct : Value} {t : Tok} (a : PySem.W.nsIn K mainGlobals "least_with" = some (some (.ref f)))
    (l : K.lookup f = some ⟨oc, od, .func (PySem.W.fnOf "least_with" "least_with" (defArgs s_least_with) (defBody s_least_with) (defScope s_least_with) .none (.ref D) doc pm an cdv ct), osl⟩) (n : PySem.W.nsIn K D "least" = some (some (.int 0 t)))
    (c : PySem.W.codeIn K cdv "least_with" = true) (k : PySem.W.keepIn K (.ref f) = true) : IsL K :=
  ⟨⟨f, _, a, ⟨⟨oc, od, .none, .ref D, doc, pm, an, cdv, ct, osl, rfl, l, c, .inl ⟨rfl, rfl⟩, .inr ⟨D, rfl, fun q hq => by
    rw [List.mem_singleton.mp hq]
    exact ⟨_, n, t, rfl⟩⟩⟩, k⟩⟩⟩
theorem defOf {P : Program} {w : World} {K : PySem.W.Frag} {mg : Str → Option Value} {base : Heap} {CX : CXT} {k : Nat} {x : Str} {st : Stmt} {ps : List Str} {sp : Sp} {f : Addr} {fd : FuncData} (F : Fun K x x st f fd) (b : Binds K fd ps []) (g : mg x = some (.ref f)) (G : FnOk P w K mg base CX k f fd ps sp) : Def P w K mg base CX k x st ps sp := ⟨⟨f, fd, F, b, g, G⟩⟩
theorem all_mk {l : PySem.W.OpenLaw} {w : World} {K : PySem.W.Frag} {h : Heap} {mg : Str → Option Value} {fa : Addr} (X : K.In h) (G : h.Ns mainGlobals mg) (hfa : mg "law" = some (.ref fa))
    (iInv : Is K "inverse" s_inverse) (iL : IsL K) (iFeed : Is K "_law_feed" s_law_feed) (iDraw : Is K "_law_draw" s_law_draw) (iPick : Is K "_law_pick" s_law_pick) (iGcd : Is K "_law_gcd" s_law_gcd) (iTurn : Is K "_law_turn" s_law_turn) (iAp : Is K "_law_all_apart" s_law_all_apart) (iLaw : Is K "law" s_law)
    (zLen : PySem.W.nsIn K mainGlobals "len" = some none) (zAbs : PySem.W.nsIn K mainGlobals "abs" = some none) (zRng : PySem.W.nsIn K mainGlobals "range" = some none) (zTup : PySem.W.nsIn K mainGlobals "tuple" = some none) (zZip : PySem.W.nsIn K mainGlobals "zip" = some none)
    (zGcd : PySem.W.nsIn K mainGlobals "gcd" = some (some (.builtin "math.gcd"))) :
    ∃ fd : FuncData, (∀ (s : Shared) (v : Value), BindsTo s fd ⟨[v], []⟩ [("_law_script", v)]) ∧ ∀ base : Heap, K.In base → base.Ns mainGlobals mg → FnG l.prog w K mg base CX0 4 fa fd ["_law_script"] (spLaw K) := by
  obtain ⟨f1, fd1, a1, F1⟩ := iInv.ex
  obtain ⟨f2, fd2, a2, F2⟩ := iL.ex
  obtain ⟨f3, fd3, a3, F3⟩ := iFeed.ex
  obtain ⟨f4, fd4, a4, F4⟩ := iDraw.ex
  obtain ⟨f5, fd5, a5, F5⟩ := iPick.ex
  obtain ⟨f6, fd6, a6, F6⟩ := iGcd.ex
  obtain ⟨f7, fd7, a7, F7⟩ := iTurn.ex
  obtain ⟨f8, fd8, a8, F8⟩ := iAp.ex
  obtain ⟨f9, fd9, a9, F9⟩ := iLaw.ex
  have e := hfa.symm.trans (PySem.W.mg_of X G a9)
  cases e
  have b1 := F1.binds (ps := ["number", "many"]) fun _ _ _ _ _ _ us hl => match us, hl with | [_, _], _ => rfl
  have b3 := F3.binds (ps := ["_law_script"]) fun _ _ _ _ _ _ us hl => match us, hl with | [_], _ => rfl
  have b4 := F4.binds (ps := ["_law_feed_here", "_law_many"]) fun _ _ _ _ _ _ us hl => match us, hl with | [_, _], _ => rfl
  have b5 := F5.binds (ps := ["_law_feed_here", "_law_some"]) fun _ _ _ _ _ _ us hl => match us, hl with | [_, _], _ => rfl
  have b6 := F6.binds (ps := ["_law_one", "_law_other"]) fun _ _ _ _ _ _ us hl => match us, hl with | [_, _], _ => rfl
  have b7 := F7.binds (ps := ["_law_feed_here"]) fun _ _ _ _ _ _ us hl => match us, hl with | [_], _ => rfl
  have b8 := F8.binds (ps := ["_law_rests", "_law_turns"]) fun _ _ _ _ _ _ us hl => match us, hl with | [_, _], _ => rfl
  have g1 := PySem.W.mg_of X G a1
  have g2 := PySem.W.mg_of X G a2
  have g3 := PySem.W.mg_of X G a3
  have g4 := PySem.W.mg_of X G a4
  have g5 := PySem.W.mg_of X G a5
  have g6 := PySem.W.mg_of X G a6
  have g7 := PySem.W.mg_of X G a7
  have g8 := PySem.W.mg_of X G a8
  have yLen := PySem.W.mg_none_of X G zLen
  have yAbs := PySem.W.mg_none_of X G zAbs
  have yRng := PySem.W.mg_none_of X G zRng
  have yTup := PySem.W.mg_none_of X G zTup
  have yZip := PySem.W.mg_none_of X G zZip
  have yGcd := PySem.W.mg_of X G zGcd
  have B : Blt mg := ⟨yLen, yRng, yTup, yZip, yAbs, yGcd⟩
  obtain ⟨oc, od, kV, doc, pm, an, cdv, ct, osl, rfl, lk, hcd⟩ := id F9.ex
  refine ⟨PySem.W.fnOf "law" "law" (defArgs s_law) (defBody s_law) (defScope s_law) .none kV doc pm an cdv ct, fun s v => .of_eq rfl, fun base _ _ => ?_⟩
  have Draw : ∀ k, Drw l.prog w K mg base (k + 1) f4 fd4 := fun k => ok_draw F4 yLen yAbs
  have Pick : ∀ k, Pck l.prog w K mg base (k + 2) f5 fd5 := fun k => ok_pick F5 F4 b4 g4 (Draw k) yLen
  have Gcd : ∀ k, FnOk l.prog w K mg base CX0 (k + 1) f6 fd6 ["_law_one", "_law_other"] spGcd := fun k => ok_gcd F6
  refine FnG.of (ok_law (k := 2) B (defOf F3 b3 g3 (ok_feed F3)) (defOf F4 b4 g4 (Draw 2)) (defOf F5 b5 g5 (Pick 1)) (defOf F6 b6 g6 (Gcd 2)) (defOf F7 b7 g7 (ok_turn F7 F4 b4 g4 (Draw 1) F5 b5 g5 (Pick 0)))
    (defOf F8 b8 g8 (ok_apart F8 F6 b6 g6 (Gcd 1) yLen yRng)) ⟨⟨f2, fd2, F2, g2, ok_least F2 F1 b1 g1 (ok_inverse F1) yZip yGcd⟩⟩ F9)
end K78
set_option Elab.async false
set_option linter.all false
open PySem PySem.W PyProof.Rows
set_option maxRecDepth 100000 in
set_option maxHeartbeats 0 in
theorem PySem.Challenge.cw_bandprint_k78_numbers_that_leave_rests_holds : PySem.Challenge.rw_bandprint_k78_numbers_that_leave_rests.Holds := by
  w_on; o_law; k_head; (case hw => w_witness2)
  k_fill
  refine Bp.walkG (l := PySem.Challenge.rw_bandprint_k78_numbers_that_leave_rests) (n := 63) (k := 4) (x := "_law_script") (CX := fun _ => L2.CX0) (sp := fun w => K78.spLaw _) rfl (by decide) rfl (Bp.roomG_caller ⟨rfl, by decide, by decide⟩) (fun w h Y => PySem.W.kIn_of Y) ?F (fun w H a ns hl _ hS => ⟨a, ns, rfl, hS, Nat.le_trans hl (by decide), fun _ => rfl⟩) fun _ _ _ _ _ z => z
  case F =>
    intro w mg fa h KX G hmg
    refine' K78.all_mk KX G hmg ?iInv ?iL ?iFeed ?iDraw ?iPick ?iGcd ?iTurn ?iAp ?iLaw ?zLen ?zAbs ?zRng ?zTup ?zZip ?zGcd
    case iInv =>
      refine' K78.is_mk ?a ?l ?c ?k
      (case a => k_is); (case l => k_is); (case c => k_is); (case k => k_is)
    case iL =>
      refine' K78.isL_mk ?a ?l ?n ?c ?k
      (case a => k_is); (case l => k_is); (case n => k_is); (case c => k_is); (case k => k_is)
    case iFeed =>
      refine' K78.is_mk ?a ?l ?c ?k
      (case a => k_is); (case l => k_is); (case c => k_is); (case k => k_is)
    case iDraw =>
      refine' K78.is_mk ?a ?l ?c ?k
      (case a => k_is); (case l => k_is); (case c => k_is); (case k => k_is)
    case iPick =>
      refine' K78.is_mk ?a ?l ?c ?k
      (case a => k_is); (case l => k_is); (case c => k_is); (case k => k_is)
    case iGcd =>
      refine' K78.is_mk ?a ?l ?c ?k
      (case a => k_is); (case l => k_is); (case c => k_is); (case k => k_is)
    case iTurn =>
      refine' K78.is_mk ?a ?l ?c ?k
      (case a => k_is); (case l => k_is); (case c => k_is); (case k => k_is)
    case iAp =>
      refine' K78.is_mk ?a ?l ?c ?k
      (case a => k_is); (case l => k_is); (case c => k_is); (case k => k_is)
    case iLaw =>
      refine' K78.is_mk ?a ?l ?c ?k
      (case a => k_is); (case l => k_is); (case c => k_is); (case k => k_is)
    case zLen => k_is
    case zAbs => k_is
    case zRng => k_is
    case zTup => k_is
    case zZip => k_is
    case zGcd => k_is


