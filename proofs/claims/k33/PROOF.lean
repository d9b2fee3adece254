import PyProof.Rows.All
import Wide.All
import OpenK.AllK
import Wide.FinOn
import HandS.Base
import HandS.Call
import HandS.Ends
import HandS.List
import PyProof.ListStr
import PyProof.CollectStr
import PyProof.ReprRoads
import HandS.ForMost
import HandS.Walk
import KE.GoesMore
import KE.GoesZip
import KE.GoesEnum
import HandS.Exc
import HandS.ExcOwn
import HandS.ExcInit
import HandS.ExcField
import HandS.ExcIs
import HandS.WordsExc
import KE.KExcInit
import PyProof.ExcBaseAll.LookupError
import HandS.Wide
import HandS.Replace
import HandS.Style
import PySem.Challenge.RW_bandprint_k33_maps_of_signs
set_option Elab.async false
set_option linter.all false
set_option maxRecDepth 100000
/-! Defs that are called where no display of a container is under way (so repr of lists and tuples is known). -/
namespace Bp
open PySem PySem.Spec PyProof.Rows L2

/-- room, and no display under way -/
structure RoomG (k : Nat) (A : Around) : Prop where
  room : Room k A
  quiet : A.guards = some []
theorem RoomG.le {j k : Nat} {A : Around} (r : RoomG k A) (h : j ≤ k) : RoomG j A := ⟨r.room.mono h, r.quiet⟩
theorem RoomG.down {k : Nat} {A : Around} (r : RoomG (k + 1) A) (env : Env) : RoomG k (A.deeper env) := ⟨r.room.deeper env, r.quiet⟩

/-- a def's promise there -/
structure FnG (P : Program) (w : World) (K : PySem.W.Frag) (mg : Str → Option Value) (base : Heap) (CX : CXT) (k : Nat) (f : Addr) (fd : FuncData) (ps : List Str) (sp : Sp) : Prop where
  count : ∀ vs H Q E, sp vs H Q E → vs.length = ps.length
  goes : ∀ (A : Around) (outer : List Env) (s : Shared) (H : Hp) (args : Args) (us : List Value) (vs : List V) (Q : VK) (E : XK),
    RoomG k A → Env0 P w K mg base A outer s H → BindsTo s fd args (ps.zip us) → Vals vs us → sp vs H Q E →
      codeAny (model P w) A (.call (.ref f) args) (CR CX outer P w H s Q E) s
section
variable {P : Program} {w : World} {K : PySem.W.Frag} {mg : Str → Option Value} {base : Heap} {CX : CXT} {k : Nat} {f : Addr} {fd : FuncData} {ps : List Str} {sp : Sp}
/-- each def's promise holds there, too -/
theorem FnG.of (F : FnOk P w K mg base CX k f fd ps sp) : FnG P w K mg base CX k f fd ps sp :=
  ⟨F.len, fun A outer s H args us vs Q E r => F.run A outer s H args us vs Q E r.room⟩
theorem FnG.le {j : Nat} (F : FnG P w K mg base CX j f fd ps sp) (h : j ≤ k) : FnG P w K mg base CX k f fd ps sp :=
  ⟨F.count, fun A outer s H args us vs Q E r => F.goes A outer s H args us vs Q E (r.le h)⟩

/-- the rule: a def of the text by its body -/
theorem fnG_of {name qual : Str} {params : Arguments} {body : List Stmt} {scope : Scope} {dV kV doc pm cdv ct oc : Value} {an od : Option Addr} {osl : Array (Option Value)} {N : List Str}
    (there : K.lookup f = some ⟨oc, od, .func (PySem.W.fnOf name qual params body scope dV kV doc pm an cdv ct), osl⟩)
    (code : PySem.W.codeIn K cdv qual = true) (S : FnScope N ps scope) (count : ∀ vs H Q E, sp vs H Q E → vs.length = ps.length)
    (goes : ∀ (A : Around) (outer : List Env) (s : Shared) (H : Hp) (vs : List V) (Q : VK) (E : XK),
      RoomG k (A.deeper (envOfC qual scope s.heap.objs.size f cdv)) → sp vs H Q E →
        ∃ t, PSs (cxOf CX P w K mg base N qual scope f cdv A outer s H E) body t ∧ t { nx := fun _ H' => Q .non H', rt := Q } (start N vs) H) :
    FnG P w K mg base CX (k + 1) f (PySem.W.fnOf name qual params body scope dV kV doc pm an cdv ct) ps sp := by
  constructor
  · exact count
  · intro A outer s H args us vs Q E r e0 bind rv hsp
    have n := count _ _ _ _ hsp
    have old : ∀ b o, base.get? b = some o → s.heap.get? b = some o := fun b o e => (e0.bs b o e).1
    have inH : K.In s.heap := e0.mod.kin.keeps old
    have kinds : ∀ y ∈ ps.zip us, scope.names.lookup y.1 = some .local ∨
        (scope.names.lookup y.1 = some .cell ∧ ((cellsFrom (s.heap.objs.size + 1) scope.names []).lookup y.1).isSome = true) := by
      rintro ⟨x, v⟩ hy
      exact (S.par x (List.of_mem_zip hy).1).elim .inl fun q => .inr ⟨q, PySem.W.cellsFrom_some _ _ _ (.inl q)⟩
    refine codeAny_call_function r.room.depth (inH _ _ there) rfl S.co S.gen rfl (PySem.W.codeRec_of inH code) (bind _ _ _ _ ?_)
    refine wpAny_newFunctionEnv_cells S.kind kinds fun env he s1 x => ?_
    subst he
    refine ⟨(e0.mod.nolimit.keeps old).keeps x.toInCall.keep, codeAny_func ?_⟩
    obtain ⟨t, ht, hq⟩ := goes A outer s H vs Q E (r.down _) hsp
    have I := inv_start (CX := CX) (E := E) (cd := cdv) S r.room.hd e0 n rv x
    refine wpAny_mono (ht.run [] s1 (start N vs) H _ I hq) ?_ fun _ _ z => z
    intro fl s' z
    match fl, z with
    | .ret u, z =>
      obtain ⟨v, _, H', J, rv, q⟩ := z
      exact ⟨v, H', J.os, J.bare, J.base, J.hok, rv, q⟩
    | .next, z =>
      obtain ⟨_, H', J, q⟩ := z
      exact ⟨V.non, H', J.os, J.bare, J.base, J.hok, rfl, q⟩
    | .brk, z =>
      obtain ⟨_, _, _, q⟩ := z
      exact q.elim
    | .cont, z =>
      obtain ⟨_, _, _, q⟩ := z
      exact q.elim
end

section
variable {X : Cx} {CX : CXT} {k : Nat} {f : Addr} {fd : FuncData} {ps : List Str} {sp : Sp} {dvs : List V} {ds : List Value} {E : XK} {x : Str} {p pos : Pos} {e : Expr} {es : List Expr} {t : TA}
theorem go_fnG {pins : List (Addr × Obj)} {σ : L2.St} {H : Hp} {s : Shared} {Q : VK} {us : List Value} {vs : List V}
    (F : FnG X.prog X.w X.K X.mg X.base CX k f fd ps sp) (r : RoomG k X.A) (hb : Binds X.K fd ps ds) (hd : Vals dvs ds) (hx : Passes CX X E)
    (I : Inv X pins σ H s) (rv : Vals vs us) (h : sp (vs ++ dvs) H Q E) : wpAny (model X.prog X.w) X.A (call (.ref f) us) (EP X pins σ Q) X.xe s := by
  have both : Vals (vs ++ dvs) (us ++ ds) := rv.append hd
  have n : (us ++ ds).length = ps.length := both.length.symm.trans (F.count _ _ _ _ h)
  have run := F.goes X.A X.stack s H ⟨us, []⟩ (us ++ ds) (vs ++ dvs) Q E r I.env0 (hb s us I.kIn n) both h
  refine wpAny_call (codeAny_mono run ?_)
  intro res s' z
  match res, z with
  | .error er, z => exact hx pins σ H s er s' I z
  | .ok (.ret u), z => exact I.after z
  | .ok .next, z => exact z.elim
  | .ok .brk, z => exact z.elim
  | .ok .cont, z => exact z.elim
/-- f(e, ..) there -/
theorem pe_callG (F : FnG X.prog X.w X.K X.mg X.base CX k f fd ps sp) (r : RoomG k X.A) (hg : Gl X x) (hm : X.mg x = some (.ref f)) (kept : PySem.W.keepIn X.K (.ref f) = true)
    (hb : Binds X.K fd ps ds) (hd : Vals dvs ds) (hx : Passes CX X E) (ha : PA X (e :: es) t) (nd : (x == ("__debug__" : Str)) = false := by decide)
    (star : starEach (e :: es) X.env = (false, eval e X.env) :: starEach es X.env := by rfl) (plain : (backTo pos (starEach es X.env)).any (·.1) = false := by rfl) :
    PE X (.Call (.Name x p) (e :: es) [] pos) (tCall sp dvs E t) := by
  constructor
  intro pins s σ H Q I h
  apply wpAny_Call_Name_kw
  refine ld_glob I hg hm ?_ nd
  refine PySem.W.callWith_K (h₀ := X.base) I.ok.mod.kin kept ?_ star plain
  refine thn (ha.run pos pins s σ H _ I h) ?_
  rintro us s1 ⟨vs, H1, I1, rv, q⟩
  exact ⟨I1.kIn, go_fnG F r hb hd hx I1 rv q⟩
end

/-! ### the law's own call -/
/-- what is tracked where only the script is: nothing, or the script itself -/
def lone (a : Addr) (o : Obj) (xs : List V) (free : Bool) : Hp := fun b => if b = a ∧ free = true then some (.frz o (.lst xs)) else none
theorem lone_some {a b : Addr} {o : Obj} {xs : List V} {free : Bool} {u : HO} (h : lone a o xs free b = some u) : b = a ∧ free = true ∧ u = .frz o (.lst xs) := by
  unfold lone at h
  by_cases c : b = a ∧ free = true
  · rw [if_pos c] at h
    exact ⟨c.1, c.2, (Option.some.inj h).symm⟩
  · rw [if_neg c] at h
    cases h
theorem lone_only {a : Addr} {o : Obj} {xs : List V} {free : Bool} : Only (lone a o xs free) := fun b => by
  unfold lone
  by_cases c : b = a ∧ free = true
  · exact .inr ⟨o, xs, if_pos c⟩
  · exact .inl (if_neg c)
theorem lone_none {a b : Addr} {o : Obj} {xs : List V} {free : Bool} (h : ¬ (b = a ∧ free = true)) : lone a o xs free b = none := if_neg h

theorem callG {P : Program} {w : World} {K : PySem.W.Frag} {mg mb : Str → Option Value} {CX : CXT} {k : Nat} {fa a : Addr} {fd : FuncData} {x : Str} {sp : Sp} {s₁ : Shared} {vs : List Value} {ns : List Int}
    (KX : K.In s₁.heap) (hns : s₁.heap.Ns mainGlobals mg) (hb : s₁.heap.Ns builtinsNs mb) (names : ∀ x : Str, x ≠ "__name__" → mb x = bootBuiltins x) (wide : s₁.heap.NoLimit) (hg : s₁.gens = #[])
    (ha : s₁.heap.get? a = some { cls := .type "list", data := .seq vs.toArray }) (hi : IntsAre vs ns) (hl : ns.length ≤ sizeLine) (hr : RoomG k callerA)
    (F : ∀ base : Heap, K.In base → base.Ns mainGlobals mg → FnG P w K mg base CX k fa fd [x] sp) (bind : ∀ (s : Shared) (u : Value), BindsTo s fd ⟨[u], []⟩ [(x, u)])
    (asked : ∀ H : Hp, Only H → SqL K H a (ns.map V.int) → sp [.ref a] H (fun v _ => v = .bl true) fun _ _ _ => False)
    (none_out : ∀ H e s', CX [] H s₁ (fun _ _ _ => False) e s' → False) :
    codeAny (model P w) callerA (.call (.ref fa) ⟨[.ref a], []⟩) (fun r s' => r = .ok (.ret (.bool true)) ∧ OldK s₁.heap s'.heap ∧ s'.os = s₁.os ∧ AllBare s'.gens) s₁ := by
  have rv := vals_ints hi
  have size := hi.length
  have held : (ns.map V.int).length ≤ sizeLine := by rw [List.length_map]; exact hl
  -- the script is tracked where the module doesn't know it
  let script : Obj := { cls := .type "list", data := .seq vs.toArray }
  let free : Bool := (K.lookup a).isNone
  let H : Hp := lone a script (ns.map V.int) free
  have hok : HOk P w H s₁.heap := fun b u e => by
    obtain ⟨rfl, _, rfl⟩ := lone_some e
    exact ⟨ha, held, vs, _, rv, ha⟩
  have seq : SqL K H a (ns.map V.int) := by
    cases q : K.lookup a with
    | none =>
      exact .inl (.inr ⟨script, if_pos ⟨rfl, by show (K.lookup a).isNone = true; rw [q]; rfl⟩⟩)
    | some o =>
      have z := KX a o q
      rw [ha] at z
      cases z
      exact .inr ⟨_, vs.toArray, _, q, rfl, rfl, rfl, by rw [List.size_toArray, size]; exact hl, by simpa using rv⟩
  have offK : ∀ b o, K.lookup b = some o → H b = none := fun b o e => lone_none fun ⟨c1, c2⟩ => by
    rw [c1] at e
    have c3 : (K.lookup a).isNone = true := c2
    rw [e] at c3
    cases c3
  have offD : ∀ {b : Addr} {o : Obj} {es : Array DictEntry} {ep : Nat}, s₁.heap.get? b = some o → o.data = .dict es ep → H b = none := fun {b o es ep} e d => lone_none fun ⟨c1, _⟩ => by
    rw [c1, ha] at e
    cases e
    cases d
  have nsB : ∀ {b : Addr} {m : Str → Option Value}, s₁.heap.Ns b m → (hidT s₁.heap H).Ns b m := by
    rintro b m ⟨o, es, ep, e, d, r⟩
    exact ⟨o, es, ep, hidT_get e (offD e d), d, r⟩
  have inB : K.In (hidT s₁.heap H) := fun b o e => hidT_get (KX b o e) (offK b o e)
  obtain ⟨mc, w1, w2⟩ := wide
  have mod : Mod K mg (hidT s₁.heap H) := ⟨inB, nsB hns, ⟨mb, nsB hb, names⟩, ⟨mc, nsB w1, w2⟩⟩
  have none_in : ∀ b : Addr, b ∉ frs ([] : List Env) := fun b z => by
    have z' : b ∈ ([] : List Addr) := z
    cases z'
  have e0 : Env0 P w K mg (hidT s₁.heap H) callerA [] s₁ H :=
    { frames := rfl, mod := mod, bs := fun b o e => of_hidT e, bsz := Nat.le_of_eq (hidT_size _ _), funs := trivial, frf := fun b z => (none_in b z).elim, hok := hok, bare := .of_eq hg }
  have run := (F _ inB (nsB hns)).goes callerA [] s₁ H ⟨[.ref a], []⟩ [.ref a] [.ref a] _ _ hr e0 (bind s₁ (.ref a)) (.cons rfl .nil) (asked H lone_only seq)
  refine codeAny_mono run ?_
  intro r s' z
  match r, z with
  | .error er, z => exact (none_out H er s' z).elim
  | .ok .next, z => exact z.elim
  | .ok .brk, z => exact z.elim
  | .ok .cont, z => exact z.elim
  | .ok (.ret u), z =>
    obtain ⟨v, H', os, bare, un, hok', r', q⟩ := z
    cases (show v = .bl true from q)
    cases (show u = Value.bool true from r')
    refine ⟨rfl, OldK.of_keep fun b o e => ?_, os, bare⟩
    cases c : H b with
    | none => exact un.keep b o e c (none_in b) (by simp)
    | some u =>
      obtain ⟨rfl, _, rfl⟩ := lone_some c
      have after := hok' b _ (un.frzs b _ _ c)
      rw [ha] at e
      cases e
      exact after.1

/-- the goal that the head leaves, from the law's promise -/
theorem walkG {l : PySem.W.OpenLaw} {n k : Nat} {q : Program} {loose : List Str} {XP : (Str → Option Value) → Heap → Prop} {YP : World → Heap → Prop} {d : DefRec} {K : Params → PySem.W.Frag} {CX : World → CXT} {sp : World → Sp} {x : Str}
    (most : l.most = some n) (small : n ≤ sizeLine) (plain : d.params.defaults = []) (hr : RoomG k callerA) (inK : ∀ (w : World) (h : Heap), YP w h → (K w.params).In h)
    (F : ∀ (w : World) (mg : Str → Option Value) (fa : Addr) (h : Heap), (K w.params).In h → h.Ns mainGlobals mg → mg d.name = some (.ref fa) →
      ∃ fd : FuncData, (∀ (s : Shared) (u : Value), BindsTo s fd ⟨[u], []⟩ [(x, u)]) ∧
        ∀ base : Heap, (K w.params).In base → base.Ns mainGlobals mg → FnG l.prog w (K w.params) mg base (CX w) k fa fd [x] (sp w))
    (asked : ∀ (w : World) (H : Hp) (a : Addr) (ns : List Int), ns.length ≤ n → Only H → SqL (K w.params) H a (ns.map V.int) → sp w [.ref a] H (fun v _ => v = .bl true) fun _ _ _ => False)
    (none_out : ∀ (w : World) (H : Hp) (s : Shared) (e : Value) (s' : Shared), CX w [] H s (fun _ _ _ => False) e s' → False) :
    PySem.W.WalkO q loose XP YP l.row.toRowW d [] (fun f vs => PySem.call f vs) := by
  apply Att.attach_call most plain
  intro w s₀ s₁ mg mb fa o pm cd doc a vs ns G Y ho hd hcd hmg hobj hints hlen hg
  have KX := inK w _ Y
  obtain ⟨fd, bind, hF⟩ := F w mg fa _ KX G.T.g hmg
  refine callG KX G.T.g G.T.b G.T.builtins G.T.nolimit hg hobj hints (Nat.le_trans hlen small) hr hF bind ?_ ?_
  · intro H only seq
    exact asked w H a ns hlen only seq
  · intro H e s' z
    exact none_out w H s₁ e s' z
theorem roomG_caller {k : Nat} (r : Room k callerA) : RoomG k callerA := ⟨r, rfl⟩
end Bp
set_option Elab.async false
set_option linter.all false
set_option maxRecDepth 100000
set_option maxHeartbeats 1000000
/-! Rules that the bundles don't bring: repr, a text so many times, list and sorted of a text. -/
namespace Bp
open PySem PySem.Spec PyProof.Rows L2

/-! ### repr -/
/-- what repr makes of a thing that is no object -/
def shownV : V → Option Str
  | .non => some "None"
  | .bl b => some (if b then "True" else "False")
  | .str z => some (reprText z)
  | .int i => some (toString i)
  | _ => none
/-- .. within bounds -/
def shownFits : V → Prop
  | .str z => (reprText z).length ≤ sizeLine
  | .int i => i.natAbs.log2 < 1920
  | _ => True
section
variable {X : Cx}
theorem call_reprV : CallR X (.builtin "repr") (fun xs H Q => ∃ x z, xs = [x] ∧ shownV x = some z ∧ shownFits x ∧ Q (.str z) H) := by
  intro pins s σ H xs us Q I r h
  obtain ⟨x, z, rfl, hx, fit, q⟩ := h
  obtain ⟨u, rfl, rx⟩ := vals1 r
  cases x with
  | non =>
    cases rx
    cases hx
    exact PySem.P.repr_of_none ⟨.str _, H, I.tok _, ⟨_, rfl⟩, q⟩
  | bl b =>
    cases rx
    cases hx
    exact PySem.P.repr_of_bool ⟨.str _, H, I.tok _, ⟨_, rfl⟩, q⟩
  | str y =>
    obtain ⟨t, rfl⟩ := rx
    cases hx
    exact PySem.P.repr_of_str (hsz := fit) ⟨.str _, H, I.tok _, ⟨_, rfl⟩, q⟩
  | int i =>
    obtain ⟨t, rfl⟩ := rx
    cases hx
    exact PySem.P.repr_of_int fit ⟨.str _, H, I.tok _, ⟨_, rfl⟩, q⟩
  | byt b => cases hx
  | flt b => cases hx
  | ref a => cases hx
  | ty n => cases hx

/-- of a list or tuple, of data: where no display is under way -/
theorem call_reprD (quiet : X.A.guards = some []) (room : X.A.units + 64 < cLine) :
    CallR X (.builtin "repr") (fun xs H Q => ∃ (p : Addr) (d : PyData), xs = [.ref p] ∧ Dp X.K H (.ref p) d ∧ d.showable = true ∧ d.hasDict = false ∧ d.depth ≤ 60 ∧ d.shown.length ≤ sizeLine ∧ Q (.str d.shown) H) := by
  intro pins s σ H xs us Q I r h
  obtain ⟨p, d, rfl, hd, sh, nd, deep, fit, q⟩ := h
  obtain ⟨u, rfl, rx⟩ := vals1 r
  obtain ⟨as, rd⟩ := Dp.reads I d _ u hd rx
  cases rx
  refine repr_of_reads' rd sh (fun z => by rw [nd] at z; cases z) quiet (by omega) (fun _ _ e => e) (fun h' u tk kept => ?_) fit
  exact ⟨.str _, H, I.kept (t' := tk) kept, ⟨_, rfl⟩, q⟩

/-! ### a text so many times -/
def timesS (z : Str) (n : Nat) : Str := ⟨(List.replicate n z.cps).foldl (· ++ ·) #[]⟩
theorem op_mul_str : OpR X (binaryOp .Mult) (fun x y H Q => ∃ (z : Str) (n : Nat), x = .str z ∧ y = .int n ∧ 2 ≤ n ∧ n ≤ 1000 ∧ z.length ≠ 0 ∧ z.length ≤ 1000 ∧ Q (.str (timesS z n)) H) := by
  intro pins s σ H x y v u Q I rx ry h
  obtain ⟨z, n, rfl, rfl, lo, hi, some, short, q⟩ := h
  obtain ⟨t, rfl⟩ := rx
  obtain ⟨t', rfl⟩ := ry
  have ne1 : ¬ ((n : Int) < 1) := by omega
  have c1 : ((n : Int) == 1) = false := by
    rw [beq_eq_false_iff_ne]
    omega
  have c2 : (z.length == 0) = false := beq_eq_false_iff_ne.mpr some
  have c3 : ((n : Int) == 1 || z.length == 0) = false := by rw [c1, c2]; rfl
  have en : (n : Int).toNat = n := Int.toNat_natCast n
  have big : z.length * n ≤ 1000000 := Nat.mul_le_mul short hi
  refine PySem.P.mul_str ?_ ?_ ?_ ?_
  · have a1 : ¬ ((n : Int) < -(2 ^ 63)) := by omega
    have a2 : ¬ ((n : Int) ≥ 2 ^ 63) := by omega
    rw [decide_eq_false a1, decide_eq_false a2]
    rfl
  · intro _ _ g
    have k : (2 ^ 63 - 1 : Int) / n ≥ 1000 := by
      apply Int.le_ediv_of_mul_le (by omega)
      omega
    omega
  · intro _ _
    rw [en]
    unfold PySem.Builtin.Str.tooLong
    apply decide_eq_false
    have e := sizeLine_eq
    omega
  · rw [if_neg ne1, if_neg (by rw [c3]; exact Bool.false_ne_true), en]
    refine ⟨?_, ?_⟩
    · show (timesS z n).length ≤ sizeLine
      have e : (timesS z n).length = n * z.length := by
        unfold timesS Str.length
        have fold : ∀ (m : Nat) (acc : Array Nat), ((List.replicate m z.cps).foldl (· ++ ·) acc).size = acc.size + m * z.cps.size := by
          intro m
          induction m with
          | zero =>
            intro acc
            simp
          | succ m ih =>
            intro acc
            rw [List.replicate_succ, List.foldl_cons, ih, Array.size_append, Nat.succ_mul]
            omega
        rw [fold]
        simp
      rw [e, Nat.mul_comm]
      have e := sizeLine_eq
      omega
    · exact ⟨.str (timesS z n), H, I.tok _, ⟨_, rfl⟩, q⟩

/-! ### list(text), sorted(text) -/
/-- a text's signs, one text each -/
def signsS (z : Str) : List Str := z.cps.toList.map fun c => ⟨#[c]⟩
theorem signs_vals {z : Str} {acc : Array Value} (h : ItemsOf (SignAt z) acc z.cps.size) : Vals ((signsS z).map V.str) acc.toList ∧ StrsAre acc.toList (signsS z) := by
  obtain ⟨n, at_⟩ := h
  have key : ∀ (cs : List Nat) (vs : List Value), vs.length = cs.length → (∀ (j : Nat) (v : Value), vs[j]? = some v → ∃ (c : Nat) (u : Tok), cs[j]? = some c ∧ v = Value.str ⟨#[c]⟩ u) →
      Vals ((cs.map fun c => (⟨#[c]⟩ : Str)).map V.str) vs ∧ StrsAre vs (cs.map fun c => ⟨#[c]⟩) := by
    intro cs
    induction cs with
    | nil =>
      intro vs hl _
      have : vs = [] := List.length_eq_zero_iff.mp hl
      subst this
      exact ⟨.nil, .nil⟩
    | cons c cs ih =>
      intro vs hl hv
      cases vs with
      | nil => cases hl
      | cons v vs =>
        obtain ⟨c', u, e1, e2⟩ := hv 0 v rfl
        cases e1
        subst e2
        obtain ⟨a1, a2⟩ := ih vs (by simpa using hl) fun j w hw => hv (j + 1) w hw
        exact ⟨.cons ⟨u, rfl⟩ a1, .cons _ _ a2⟩
  refine key z.cps.toList acc.toList (by simpa using n) fun j v hv => ?_
  obtain ⟨c, u, e1, e2⟩ := at_ j v (by simpa using hv)
  exact ⟨c, u, by simpa using e1, e2⟩
theorem call_list_text (calm : X.calm = true) : CallR X (.type "list") (fun xs H Q => ∃ z, xs = [.str z] ∧ z.length ≤ sizeLine ∧ ∀ l, H l = none → Q (.ref l) (upd H l (.lst ((signsS z).map V.str)))) := by
  intro pins s σ H xs us Q I r h
  obtain ⟨z, rfl, fit, q⟩ := h
  obtain ⟨u, rfl, t, rfl⟩ := vals1 r
  refine call_list_str (I.ok.hd calm) z t (fun h' tk acc c kept new items => ?_) fit
  have free := I.hok.fresh (Nat.le_refl s.heap.objs.size)
  obtain ⟨rv, _⟩ := signs_vals items
  have n : ((signsS z).map V.str).length ≤ sizeLine := by
    rw [List.length_map]
    unfold signsS
    rw [List.length_map, Array.length_toList]
    exact fit
  exact ⟨.ref s.heap.objs.size, _, I.laid (t' := tk) kept (Nat.le_refl _) (show ObjOk X.prog X.w _ h' _ (.lst ((signsS z).map V.str)) from ⟨n, acc.toList, c, rv, by simpa using new⟩), rfl, q _ free⟩

theorem sorted_kept {h : Heap} {vs : List Value} {out : Array Value} {b : Addr} {o : Obj} (e : h.get? b = some o) : (sortedHeap (h.push (seqObj "list" vs.toArray 0)) h.objs.size vs out).get? b = some o := by
  have ne : b ≠ h.objs.size := Nat.ne_of_lt (Heap.lt_size e)
  unfold sortedHeap
  rw [Heap.get?_update_other _ _ (Ne.symm ne)]
  refine Heap.get?_push_of_some _ (Heap.get?_push_of_some _ ?_)
  rw [Heap.get?_update_other _ _ (Ne.symm ne)]
  exact Heap.get?_push_of_some _ e
theorem sorted_new {h : Heap} {vs : List Value} {out : Array Value} : ∃ n, (sortedHeap (h.push (seqObj "list" vs.toArray 0)) h.objs.size vs out).get? h.objs.size = some (seqObj "list" out n) := by
  have at0 : (h.push (seqObj "list" vs.toArray 0)).get? h.objs.size = some (seqObj "list" vs.toArray 0) := Heap.get?_push_size _ rfl
  have at1 := get?_update_seq at0 (fun _ => #[])
  unfold sortedHeap
  refine ⟨_, get?_update_seq (Heap.get?_push_of_some _ (Heap.get?_push_of_some _ at1)) _⟩
theorem call_sorted_text (calm : X.calm = true) : CallR X (.builtin "sorted") (fun xs H Q => ∃ z, xs = [.str z] ∧ z.length < 64 ∧ ∀ (ys : List Str) (l : Addr), ys.Perm (signsS z) → sortedS ys = true → H l = none → Q (.ref l) (upd H l (.lst (ys.map V.str)))) := by
  intro pins s σ H xs us Q I r h
  obtain ⟨z, rfl, short, q⟩ := h
  obtain ⟨u, rfl, t, rfl⟩ := vals1 r
  have fit : z.cps.size ≤ sizeLine := by
    have e := sizeLine_eq
    have : z.cps.size < 64 := short
    omega
  refine Calls.call_function_entry kind_sorted plain_sorted entry_sorted (args_sorted1 _) ?_
  unfold Builtin.«sorted»
  refine wpAny_bind (m := checkCount "sorted" 1 1 _) (wpAny_pure ?_)
  refine wpAny_bind (wpAny_collect_str (A := X.A.in1) (show X.A.in1.handled = none from I.ok.hd calm) z t (fun s' acc kept eg ed eo items => ?_) fit)
  obtain ⟨hp, g, dr, tk, os⟩ := s'
  obtain ⟨rv, sa⟩ := signs_vals items
  have size : acc.toList.length < 64 := by
    rw [Array.length_toList, items.1]
    exact short
  refine wpAny_bind (wpAny_newList ?_)
  have at0 : (hp.push (seqObj "list" acc.toList.toArray 0)).get? hp.objs.size = some (seqObj "list" acc.toList.toArray 0) := Heap.get?_push_size _ rfl
  show wpAny _ _ _ _ _ (⟨hp.push (seqObj "list" acc.toList.toArray 0), g, dr, tk, os⟩ : Shared)
  refine wpAny_bind (wpAny_holding (wpAny_call_entry slot_list_sort ⟨_, at0, rfl⟩ entry_list_sort (list_sort_treeK strKind_oneLt at0 sa.keysOf (fun v₁ v₂ rest e => keyKind_strs (by rw [← e]; exact sa)) size fun st perm srt => ⟨_, rfl, ?_⟩) (args_list_sort _)))
  refine wpAny_pure ⟨_, rfl, ?_⟩
  obtain ⟨ys, y1, y2, y3⟩ := sorted_out_str sa perm srt
  obtain ⟨n, new⟩ := sorted_new (h := hp) (vs := acc.toList) (out := (arrOf st).map (·.2))
  cases eg
  cases ed
  cases eo
  have I1 : Inv X pins σ H ⟨hp, s.gens, s.drawn, tk, s.os⟩ := I.kept (t' := tk) kept
  have free := I1.hok.fresh (Nat.le_refl hp.objs.size)
  have n64 : (ys.map V.str).length ≤ sizeLine := by
    rw [List.length_map, y2.length_eq]
    unfold signsS
    rw [List.length_map, Array.length_toList]
    exact fit
  refine ⟨.ref hp.objs.size, upd H hp.objs.size (.lst (ys.map V.str)), ?_, rfl, q ys _ y2 y3 free⟩
  exact I1.laid (t' := tk) (h' := sortedHeap (hp.push (seqObj "list" acc.toList.toArray 0)) hp.objs.size acc.toList ((arrOf st).map (·.2))) (a := hp.objs.size) (o := .lst (ys.map V.str))
    (fun b o e => sorted_kept e) (Nat.le_refl _) ⟨n64, ((arrOf st).map (·.2)).toList, n, vals_of_strs y1, by
      rw [Array.toArray_toList]
      exact new⟩
end
end Bp
set_option Elab.async false
set_option linter.all false
set_option maxRecDepth 100000
/-! Texts as lists of codes; maps of signs as lists; what two ways of reckoning them have in common. -/
namespace Bp
open PySem

/-! ### texts -/
def tx (l : List Nat) : Str := ⟨l.toArray⟩
theorem tx_len (l : List Nat) : (tx l).length = l.length := by unfold tx Str.length; simp
theorem tx_list (l : List Nat) : (tx l).cps.toList = l := by unfold tx; simp
theorem tx_cps (z : Str) : tx z.cps.toList = z := by
  obtain ⟨a⟩ := z
  unfold tx
  simp
theorem tx_inj {a b : List Nat} (h : tx a = tx b) : a = b := by
  have e := congrArg (fun z : Str => z.cps.toList) h
  rw [← tx_list a, ← tx_list b]
  exact e
theorem tx_one (c : Nat) : (⟨#[c]⟩ : Str) = tx [c] := rfl
theorem tx_nil : ("" : Str) = tx [] := by decide
theorem str_ext {a b : Str} (h : a.cps.toList = b.cps.toList) : a = b := by
  rw [← tx_cps a, ← tx_cps b, h]
theorem append_list (a b : Str) : (a ++ b).cps.toList = a.cps.toList ++ b.cps.toList := by
  show (Str.append a b).cps.toList = _
  unfold Str.append
  simp
theorem tx_append (a b : List Nat) : tx a ++ tx b = tx (a ++ b) := str_ext (by rw [append_list, tx_list, tx_list, tx_list])
theorem foldl_empty (l : List Str) : ∀ acc : Array Nat, ((l.foldl (fun acc p => acc ++ (tx []).cps ++ p.cps) acc).toList) = acc.toList ++ (l.map fun p => p.cps.toList).flatten := by
  induction l with
  | nil => intro acc; simp
  | cons p l ih =>
    intro acc
    rw [List.foldl_cons, ih]
    unfold tx
    simp
/-- texts joined by nothing -/
theorem join_empty (l : List Str) : Txt.join (tx []) l = tx (l.map fun p => p.cps.toList).flatten := by
  apply str_ext
  rw [tx_list]
  show (Builtin.Str.glued (tx []) l).cps.toList = _
  unfold Builtin.Str.glued
  rw [foldl_empty]
  cases l with
  | nil => rfl
  | cons a l => rfl
theorem flatten_ones (cs : List Nat) : ((cs.map fun c => tx [c]).map fun p => p.cps.toList).flatten = cs := by
  induction cs with
  | nil => rfl
  | cons c cs ih =>
    rw [List.map_cons, List.map_cons, List.flatten_cons, ih, tx_list]
    rfl
theorem join_ones_tx (cs : List Nat) : Txt.join (tx []) (cs.map fun c => tx [c]) = tx cs := by rw [join_empty, flatten_ones]
theorem ones_weigh (cs : List Nat) : ((cs.map fun c => tx [c]).map (·.length)).sum = cs.length := by
  induction cs with
  | nil => rfl
  | cons c cs ih =>
    rw [List.map_cons, List.map_cons, List.sum_cons, ih, tx_len]
    show 1 + cs.length = cs.length + 1
    omega

/-- a text for each sign -/
def ones (l : List Nat) : List Str := l.map fun c => tx [c]
theorem ones_len (l : List Nat) : (ones l).length = l.length := List.length_map _
theorem ones_sum (l : List Nat) : ((ones l).map (·.length)).sum = l.length := ones_weigh l
theorem ones_join (l : List Nat) : Txt.join (tx []) (ones l) = tx l := join_ones_tx l
theorem ones_snoc (l : List Nat) (c : Nat) : ones (l ++ [c]) = ones l ++ [tx [c]] := by
  unfold ones
  rw [List.map_append]
  rfl

/-! ### the first place of a sign in a text -/
theorem occ_from (l : List Nat) (c : Nat) : ∀ (n i : Nat), i + n = l.length + 1 → (∀ j, j < i → l[j]? ≠ some c) → c ∈ l →
    (forIn (List.range' i n) ((#[] : Array Nat), 0) (StrLaws.occBody (tx l) (tx [c]) l.length 1)).run.fst.toList = [l.idxOf c] := by
  intro n
  have rest : ∀ (k : List Nat) (x : Nat) (f : Nat), (forIn k ((#[x] : Array Nat), f) (StrLaws.occBody (tx l) (tx [c]) l.length 1)).run.fst = #[x] := by
    intro k
    induction k with
    | nil => intro x f; rfl
    | cons a k ih =>
      intro x f
      rw [List.forIn_cons]
      unfold StrLaws.occBody
      rw [if_neg (by
        rintro ⟨⟨⟨h, _⟩, _⟩, _⟩
        simp at h)]
      exact ih x f
  induction n with
  | zero =>
    intro i hi no hc
    obtain ⟨j, hj⟩ := List.mem_iff_getElem?.mp hc
    have lt := (List.getElem?_eq_some_iff.mp hj).1
    exact absurd hj (no j (by omega))
  | succ n ih =>
    intro i hi no hc
    rw [List.range'_succ, List.forIn_cons]
    have one := StrLaws.subAt_one (tx l) c i
    rw [tx_list] at one
    have len : (tx l).length = l.length := tx_len l
    by_cases h : l[i]? = some c
    · obtain ⟨h1, h2⟩ := one.mpr h
      rw [len] at h1
      unfold StrLaws.occBody
      rw [if_pos ⟨⟨⟨by simp, Nat.zero_le _⟩, h1⟩, h2⟩]
      show (forIn (List.range' (i + 1) n) ((#[i] : Array Nat), i + (tx [c]).length) (StrLaws.occBody (tx l) (tx [c]) l.length 1)).run.fst.toList = _
      rw [rest]
      have e : l.idxOf c = i := by
        obtain ⟨lt, e⟩ := List.getElem?_eq_some_iff.mp h
        have le : l.idxOf c ≤ i := by
          rcases Nat.lt_or_ge i (l.idxOf c) with z | z
          · exact absurd e (by
              have := List.not_of_lt_findIdx (p := (· == c)) (xs := l) z
              simpa using this)
          · exact z
        rcases Nat.lt_or_ge (l.idxOf c) i with z | z
        · have hm : l.idxOf c < l.length := List.idxOf_lt_length_of_mem hc
          exact absurd (by rw [List.getElem?_eq_getElem hm, List.getElem_idxOf hm]) (no _ z)
        · omega
      rw [e]
    · have hn : ¬ (i + (tx [c]).length ≤ l.length ∧ Builtin.Str.subAt (tx l) (tx [c]) i = true) := fun z => h (one.mp (by rw [len]; exact z))
      unfold StrLaws.occBody
      rw [if_neg (fun z => hn ⟨z.1.2, z.2⟩)]
      refine ih (i + 1) (by omega) (fun j hj => ?_) hc
      rcases Nat.lt_or_ge j i with z | z
      · exact no j z
      · have : j = i := by omega
        rw [this]
        exact h
theorem occ_first {l : List Nat} {c : Nat} (h : c ∈ l) : Builtin.Str.occurrences (tx l) (tx [c]) 0 (tx l).length 1 = [l.idxOf c] := by
  rw [StrLaws.occ_eq, tx_len]
  exact occ_from l c (l.length + 1 - 0) 0 (by omega) (fun j hj => absurd hj (Nat.not_lt_zero _)) h
end Bp
set_option Elab.async false
set_option linter.all false
set_option maxRecDepth 100000
/-! Comprehensions that make texts of one sign each, and join them. -/
namespace Bp
open PySem PySem.Spec PyProof.Rows L2
theorem same_new {H : Hp} {p : Addr} {o : HO} (h : H p = none) : Same H (upd H p o) := fun b x e => by
  rw [upd_ne (ne_of_none e h)]
  exact e
/-- over any walk: res i is what is made behind i turns; the heap may grow -/
theorem lc_tx {J : It} {n : Nat} {Y : Nat → Hp → V → Hp → Prop} {g : TG} {tt : TT} {te : TE} {vs : List Nat} {σ : L2.St} {H : Hp} {D : Addr} {Qd : Hp → Prop}
    {G : Hp → Prop} (w : Walk J n G Y) (hG : ∀ H1, Same H H1 → G H1) (res : Nat → List Nat) (r0 : res 0 = []) (few : ∀ i, i ≤ n → (res i).length ≤ 1000) (nD : H D = none)
    (step : ∀ i x H1 H2 (Qy : V → Hp → Prop) (Qn : Hp → Prop), i < n → Same H H1 → Y i H1 x H2 → (∀ c H5, Same H1 H5 → res (i + 1) = res i ++ [c] → Qy (.str (tx [c])) H5) → (∀ H5, Same H1 H5 → res (i + 1) = res i → Qn H5) →
      g x (wipe σ vs) H2 fun σ2 H3 => wipe σ2 vs = wipe σ vs ∧ tt σ2 H3 fun b H4 => if b = true then te σ2 H4 Qy else Qn H4)
    (done : ∀ H', Same H H' → H' D = some (.lst ((ones (res n)).map V.str)) → Qd H') :
    ∃ W : Nat → Nat → Hp → Prop, (∃ m, W 0 m (upd H D (.lst []))) ∧ ∀ i m H, W i m H →
      (J.stop i H ∧ Qd H) ∨ (J.go i H ∧ ∃ Nx : Hp → Prop, (∀ H', Nx H' → ∃ m', m' < m ∧ W (i + 1) m' H') ∧ ∀ x H', J.yld i H x H' → g x (wipe σ vs) H' fun σ2 H2 => wipe σ2 vs = wipe σ vs ∧ tt σ2 H2 fun b H3 =>
        if b = true then te σ2 H3 fun y H4 => ∃ acc, H4 D = some (.lst acc) ∧ acc.length < sizeLine ∧ Nx (upd H4 D (.lst (acc ++ [y]))) else Nx H3) := by
  refine lc_it w (fun i H1 => Same H H1 ∧ H1 D = some (.lst ((ones (res i)).map V.str))) ⟨same_new nD, by rw [upd_same, r0]; rfl⟩ (fun i H1 _ z => hG H1 z.1) ?_ ?_
  · intro i x H1 H2 hi z y
    obtain ⟨sm, hD⟩ := z
    refine step i x H1 H2 _ _ hi sm y ?_ ?_
    · intro c H5 s5 e
      refine ⟨_, s5 _ _ hD, ?_, ?_, ?_⟩
      · rw [List.length_map, ones_len]
        exact small1000 (few i (Nat.le_of_lt hi))
      · exact fun b o q => by
          rw [upd_ne (ne_of_none q nD)]
          exact s5 _ _ (sm b o q)
      · rw [upd_same, e, ones_snoc, List.map_append]
        rfl
    · intro H5 s5 e
      exact ⟨sm.trans s5, by rw [e]; exact s5 _ _ hD⟩
  · rintro H1 ⟨sm, hD⟩
    exact done H1 sm hD
/-- no test: the item is kept -/
theorem yes_kept {σ : L2.St} {H : Hp} {A B : Hp → Prop} (h : A H) : tYes σ H fun b H4 => if b = true then A H4 else B H4 := by
  show if true = true then A H else B H
  rw [if_pos rfl]
  exact h
theorem yesOf {c : Bool} {A B : Prop} (hc : c = true) (h : A) : if c = true then A else B := by
  rw [if_pos hc]
  exact h
theorem noOf {c : Bool} {A B : Prop} (hc : c = false) (h : B) : if c = true then A else B := by
  rw [hc, if_neg Bool.false_ne_true]
  exact h
/-! ### lists of texts, and which of them is one -/
def txs (L : List (List Nat)) : List V := L.map fun m => V.str (tx m)
theorem txs_len (L : List (List Nat)) : (txs L).length = L.length := List.length_map _
theorem txs_get {L : List (List Nat)} {i : Nat} {m : List Nat} (h : L[i]? = some m) : (txs L)[i]? = some (.str (tx m)) := by
  unfold txs
  rw [List.getElem?_map, h]
  rfl
theorem txs_snoc (L : List (List Nat)) (m : List Nat) : txs (L ++ [m]) = txs L ++ [.str (tx m)] := by
  unfold txs
  rw [List.map_append]
  rfl
theorem txs_flat (L : List (List Nat)) : (txs L).all flatV = true := by
  unfold txs
  rw [List.all_map]
  exact List.all_eq_true.mpr fun _ _ => rfl
theorem eqV_tx (a b : List Nat) : eqV (.str (tx a)) (.str (tx b)) = decide (a = b) := by
  show (tx a == tx b) = _
  by_cases h : a = b
  · rw [h, decide_eq_true rfl]
    exact beq_self_eq_true _
  · rw [decide_eq_false h]
    exact beq_eq_false_iff_ne.mpr fun e => h (tx_inj e)
theorem inV_txs (m : List Nat) (L : List (List Nat)) : inV (.str (tx m)) (txs L) = decide (m ∈ L) := by
  unfold inV txs
  rw [List.any_map]
  by_cases h : m ∈ L
  · rw [decide_eq_true h]
    refine List.any_eq_true.mpr ⟨m, h, ?_⟩
    show eqV (.str (tx m)) (.str (tx m)) = true
    rw [eqV_tx]
    exact decide_eq_true rfl
  · rw [decide_eq_false h]
    refine List.any_eq_false.mpr fun x hx => ?_
    show ¬ eqV (.str (tx x)) (.str (tx m)) = true
    rw [eqV_tx]
    intro z
    exact h (of_decide_eq_true z ▸ hx)
theorem txs_at {m : List Nat} {L : List (List Nat)} (h : m ∈ L) : (txs L)[L.idxOf m]? = some (.str (tx m)) := by
  have lt := List.idxOf_lt_length_of_mem h
  exact txs_get (by rw [List.getElem?_eq_getElem lt, List.getElem_idxOf lt])
theorem txs_before {m : List Nat} {L : List (List Nat)} (i : Nat) (z : V) (hi : i < L.idxOf m) (e : (txs L)[i]? = some z) : eqV z (.str (tx m)) = false := by
  unfold txs at e
  rw [List.getElem?_map] at e
  cases q : L[i]? with
  | none =>
    rw [q] at e
    cases e
  | some x =>
    rw [q] at e
    cases e
    show eqV (.str (tx x)) (.str (tx m)) = false
    rw [eqV_tx]
    refine decide_eq_false fun z => ?_
    obtain ⟨lt, e2⟩ := List.getElem?_eq_some_iff.mp q
    have := List.not_of_lt_findIdx (p := (· == m)) (xs := L) hi
    rw [e2, z] at this
    simp at this
end Bp
set_option Elab.async false
set_option linter.all false
set_option maxRecDepth 100000
/-! Lists of texts and of numbers as data: whether two are equal. -/
namespace Bp
open PySem PySem.Spec PyProof.Rows L2
/-- small letters, each -/
def Low (l : List Nat) : Prop := ∀ c ∈ l, 97 ≤ c ∧ c ≤ 122
theorem canLay_texts {l : List (List Nat)} (h : ∀ m ∈ l, Low m) : PyData.canLayAll0 (l.map fun m => PyData.str (tx m)) = true := by
  induction l with
  | nil => rw [List.map_nil, PyData.canLayAll0]
  | cons m l ih =>
    rw [List.map_cons, PyData.canLayAll0, ih fun x hx => h x (List.mem_cons_of_mem _ hx), PyData.canLay0, Bool.and_true]
    have lm := h m (List.mem_cons_self ..)
    refine Array.all_eq_true_iff_forall_mem.mpr fun c hc => ?_
    have hc' : c ∈ m := by
      unfold tx at hc
      simpa using hc
    have := (lm c hc').2
    exact decide_eq_true (by omega)
theorem depth_texts (l : List (List Nat)) : PyData.depthAll (l.map fun m => PyData.str (tx m)) = 0 := by
  induction l with
  | nil => rw [List.map_nil, PyData.depthAll]
  | cons m l ih => rw [List.map_cons, PyData.depthAll, ih, PyData.depth]; rfl
theorem shaped_texts {l : List (List Nat)} (h : ∀ m ∈ l, Low m) : SeqAt.shaped (.list (l.map fun m => PyData.str (tx m))) = true := by
  unfold SeqAt.shaped
  rw [PyData.canLay0, canLay_texts h, PyData.depth, depth_texts, Bool.true_and]
  exact decide_eq_true (by decide)
theorem dp_texts {K : PySem.W.Frag} {H : Hp} {a : Addr} {l : List (List Nat)} (h : SqL K H a (l.map fun m => V.str (tx m))) : Dp K H (.ref a) (.list (l.map fun m => PyData.str (tx m))) := by
  refine .lst h ?_
  induction l with
  | nil => exact .nil
  | cons m l ih =>
    have all : ∀ l : List (List Nat), DpAll K H (l.map fun m => V.str (tx m)) (l.map fun m => PyData.str (tx m)) := by
      intro l
      induction l with
      | nil => exact .nil
      | cons m l ih => exact .cons (.str _) ih
    exact all _
theorem eqv_texts : ∀ (a b : List (List Nat)), PyData.eqvAll (a.map fun m => PyData.str (tx m)) (b.map fun m => PyData.str (tx m)) = decide (a = b)
  | [], [] => by rw [List.map_nil, PyData.eqvAll]; rfl
  | [], y :: b => by rw [List.map_nil, List.map_cons, PyData.eqvAll]; rfl
  | x :: a, [] => by rw [List.map_nil, List.map_cons, PyData.eqvAll]; rfl
  | x :: a, y :: b => by
    rw [List.map_cons, List.map_cons, PyData.eqvAll, eqv_texts a b, PyData.eqv]
    by_cases h : x = y
    · subst h
      by_cases h2 : a = b
      · subst h2
        simp
      · have : ¬ x :: a = x :: b := fun e => h2 (List.cons.inj e).2
        rw [decide_eq_false h2, decide_eq_false this, Bool.and_false]
    · have n1 : ¬ x :: a = y :: b := fun e => h (List.cons.inj e).1
      have n2 : (tx x == tx y) = false := beq_eq_false_iff_ne.mpr fun e => h (tx_inj e)
      rw [n2, decide_eq_false n1, Bool.false_and]
end Bp
set_option Elab.async false
set_option linter.all false
set_option maxRecDepth 100000
/-! zip of two texts, walked. -/
namespace Bp
open PySem PySem.Spec PyProof.Rows L2
theorem str_iter_at {h h' : Heap} {it : Addr} {T : String} {x : Str} {t : Tok} {i : Nat} (s : h.IsStrIter it T x t i) (k : ∀ o, h.get? it = some o → h'.get? it = some o) : h'.IsStrIter it T x t i := by
  obtain ⟨o, e, r⟩ := s
  exact ⟨o, k o e, r⟩
/-- a new pair of the i-th signs of two texts -/
def ItzS (x y : Str) : It :=
  ⟨fun i _ => i < x.cps.size ∧ i < y.cps.size,
   fun i H v H' => ∃ T c d, v = .ref T ∧ H T = none ∧ H' = upd H T (.tup [.str ⟨#[c]⟩, .str ⟨#[d]⟩]) ∧ x.cps[i]? = some c ∧ y.cps[i]? = some d,
   fun i _ => i ≤ x.cps.size ∧ i ≤ y.cps.size ∧ (i = x.cps.size ∨ i = y.cps.size)⟩
theorem turn_zipS {P : Program} {w : World} {K : PySem.W.Frag} {elts : List Expr} {kk : Nat} {tpos : Pos} {x y : Str} {t u : Tok} {z TI TO i1 i2 : Addr} (D : ZipSep2 z TI TO i1 i2 [i1] [i2]) :
    Turn P w K (.Tuple elts kk tpos) (ItzS x y) [z, TI, TO, i1, i2] z (fun i h => IsZip h z TI TO .none ∧ IsTupOf2 h TI (.ref i1) (.ref i2) ∧ (∃ a b, IsTupOf2 h TO a b) ∧ h.IsStrIter i1 (strIterType x) x t i ∧ h.IsStrIter i2 (strIterType y) y u i) where
  mem := List.mem_cons_self ..
  obj := by
    rintro i h ⟨hz, hTI, ⟨a, b, hTO⟩, ⟨o1, e1, _, d1⟩, ⟨o2, e2, _, d2⟩⟩ c hc
    have five : c = z ∨ c = TI ∨ c = TO ∨ c = i1 ∨ c = i2 := by simpa using hc
    rcases five with rfl | rfl | rfl | rfl | rfl
    · exact ⟨_, hz, fun v q => by cases q⟩
    · exact ⟨_, hTI, fun v q => by cases q⟩
    · exact ⟨_, hTO, fun v q => by cases q⟩
    · exact ⟨o1, e1, fun v q => by rw [d1] at q; cases q⟩
    · exact ⟨o2, e2, fun v q => by rw [d2] at q; cases q⟩
  keep := by
    rintro i h h' ⟨hz, hTI, ⟨a, b, hTO⟩, s1, s2⟩ k
    exact ⟨k z (by simp) _ hz, k TI (by simp) _ hTI, ⟨a, b, k TO (by simp) _ hTO⟩, str_iter_at s1 fun o q => k i1 (by simp) o q, str_iter_at s2 fun o q => k i2 (by simp) o q⟩
  item := by
    intro X hP hw hK hc i pins s σ H E I free st go
    subst hP hw hK
    obtain ⟨hz, hTI, ⟨a, b, hTO⟩, s1, s2⟩ := st
    have D1 := Draws.text (prog := X.prog) (w := X.w) (A := X.A.in1) (show X.A.in1.handled = none from I.ok.hd hc) i1 x t
    have D2 := Draws.text (prog := X.prog) (w := X.w) (A := X.A.in1) (show X.A.in1.handled = none from I.ok.hd hc) i2 y u
    have zl : z < s.heap.objs.size := Heap.lt_size hz
    refine wpAny_pyNext_zipD2_item D D1 D2 hz hTI hTO s1 s2 go.1 go.2 fun v1 v2 h' tk p1 p2 z' TO' n1 n2 hT hsz kept => ?_
    obtain ⟨c, t1, hx, rfl⟩ := p1
    obtain ⟨d, t2, hy, rfl⟩ := p2
    refine ⟨_, rfl, wpAny_letOwnedTupleGo_zip (s := { s with heap := h', toks := tk }) z' fun h'' z'' sb => ?_⟩
    have new : h''.get? s.heap.objs.size = some { cls := .type "tuple", data := .seq #[Value.str ⟨#[c]⟩ t1, Value.str ⟨#[d]⟩ t2] } := (sb.2 _ (Nat.ne_of_gt zl)).trans hT
    have ob : ObjOk X.prog X.w (upd H s.heap.objs.size (.tup [.str ⟨#[c]⟩, .str ⟨#[d]⟩])) h'' s.heap.objs.size (.tup [.str ⟨#[c]⟩, .str ⟨#[d]⟩]) :=
      ⟨by show 2 ≤ sizeLine; decide, [Value.str ⟨#[c]⟩ t1, Value.str ⟨#[d]⟩ t2], .cons ⟨_, rfl⟩ (.cons ⟨_, rfl⟩ .nil), ⟨_, new, rfl, _, rfl⟩⟩
    have J : Inv X pins σ (upd H s.heap.objs.size (.tup [.str ⟨#[c]⟩, .str ⟨#[d]⟩])) { s with heap := h'', toks := tk } :=
      I.turnedNew (t' := tk) (ch := [z, TI, TO, i1, i2]) (fun c o hb q => (sb.2 c (fun e => hb (by simp [e]))).trans (kept c o (fun e => hb (by simp [e])) (fun e => hb (by simp [e])) (fun e => hb (by simp [e])) (fun e => hb (by simp [e])) q)) free (Nat.le_refl _) ob
    refine ⟨.ref s.heap.objs.size, _, J, rfl, ⟨_, c, d, rfl, I.hok.fresh (Nat.le_refl _), rfl, hx, hy⟩, ⟨z'', ?_, ⟨_, _, (sb.2 _ D.TOz).trans TO'⟩, ?_, ?_⟩, fun b hb => ?_⟩
    · exact (sb.2 _ D.TIz).trans (kept _ _ D.TIz D.TITO D.TIi1 D.TIi2 hTI)
    · exact str_iter_at n1 fun o q => (sb.2 _ (Ne.symm D.zi1)).trans q
    · exact str_iter_at n2 fun o q => (sb.2 _ (Ne.symm D.zi2)).trans q
    · have lt : b < s.heap.objs.size := by
        have five : b = z ∨ b = TI ∨ b = TO ∨ b = i1 ∨ b = i2 := by simpa using hb
        rcases five with rfl | rfl | rfl | rfl | rfl
        · exact zl
        · exact Heap.lt_size hTI
        · exact Heap.lt_size hTO
        · obtain ⟨_, e1, _⟩ := s1
          exact Heap.lt_size e1
        · obtain ⟨_, e2, _⟩ := s2
          exact Heap.lt_size e2
      rw [upd_ne (Nat.ne_of_lt lt)]
      exact (free b hb).1
  done := by
    intro X hP hw hK hc i pins s σ H E I free st stop
    subst hP hw hK
    obtain ⟨hz, hTI, ⟨a, b, hTO⟩, s1, s2⟩ := st
    have D1 := Draws.text (prog := X.prog) (w := X.w) (A := X.A.in1) (show X.A.in1.handled = none from I.ok.hd hc) i1 x t
    have D2 := Draws.text (prog := X.prog) (w := X.w) (A := X.A.in1) (show X.A.in1.handled = none from I.ok.hd hc) i2 y u
    refine wpAny_pyNext_zipD2_end D D1 D2 hz hTI hTO s1 s2 stop.1 stop.2.1 stop.2.2 fun h' tk kept => ⟨rfl, ?_⟩
    exact I.turnedL (t' := tk) (ch := [z, TI, TO, i1, i2]) (fun c o hb q => kept c o (fun e => hb (by simp [e])) (fun e => hb (by simp [e])) (fun e => hb (by simp [e])) (fun e => hb (by simp [e])) q) free
  self := fun A i s Q E st h => wpAny_pyIter_zip st.1 h
def iZipS (ta : TA) : TI := fun σ H R => ta σ H fun vs H1 => ∃ x y, vs = [.str x, .str y] ∧ R (ItzS x y) H1
theorem pi_zipS {X : Cx} {e e2 : Expr} {ta : TA} {p pos tpos : Pos} {elts : List Expr} {kk : Nat} (hg : Gl X "zip") (hm : X.mg "zip" = none) (ha : PA X [e, e2] ta)
    (hs : starEach [e, e2] X.env = (false, eval e X.env) :: starEach [e2] X.env := by rfl) (hpl : (backTo pos (starEach [e2] X.env)).any (·.1) = false := by rfl) :
    PI X (.Tuple elts kk tpos) (.Call (.Name "zip" p) [e, e2] [] pos) (iZipS ta) := by
  constructor
  intro pins s σ H R I h
  refine Call_ (ld_blt I hg hm PyProof.Rows.boot_zip (PyProof.Rows.callWith_type1 (thn (ha.run pos pins s σ H _ I h) ?_) hs hpl))
  rintro us s1 ⟨vs, H1, I1, r1, x, y, rfl, q⟩
  obtain ⟨u1, u2, rfl, ⟨t, rfl⟩, ⟨u, rfl⟩⟩ := vals2 r1
  refine zip_begins2 (begins_text x t) (begins_text y u) trivial trivial fun h' hz hTI hTO h1 h2 hsz kept => wpAny_pyIter_zip hz ?_
  have I2 : Inv X pins σ H1 { s1 with heap := h' } := I1.kept (t' := s1.toks) kept
  let N := s1.heap.objs.size
  refine ⟨N + 4, [N + 4, N + 2, N + 3, N, N + 1], _, _, H1, rfl, I2, turn_zipS (x := x) (y := y) (t := t) (u := u) (zip_sep2 (N := N) (fp1 := []) (fp2 := []) (fun b hb => by cases hb) (fun b hb => by cases hb)), ⟨hz, hTI, ⟨_, _, hTO⟩, ⟨_, h1, rfl, rfl⟩, ⟨_, h2, rfl, rfl⟩⟩, fun c hc => ?_, q⟩
  have five : c = N + 4 ∨ c = N + 2 ∨ c = N + 3 ∨ c = N ∨ c = N + 1 := by simpa using hc
  have le : s1.heap.objs.size ≤ c := by
    rcases five with e | e | e | e | e
    · rw [e]; exact Nat.le_add_right _ _
    · rw [e]; exact Nat.le_add_right _ _
    · rw [e]; exact Nat.le_add_right _ _
    · rw [e]; exact Nat.le_refl _
    · rw [e]; exact Nat.le_add_right _ _
  exact I1.fpOk le (I1.hok.fresh le)
/-- two texts that are as long -/
theorem walk_zipS {x y : Str} (h : x.cps.size = y.cps.size) : Walk (ItzS x y) x.cps.size (fun _ => True)
    (fun i H v H' => ∃ T c d, v = .ref T ∧ H T = none ∧ H' = upd H T (.tup [.str ⟨#[c]⟩, .str ⟨#[d]⟩]) ∧ x.cps[i]? = some c ∧ y.cps[i]? = some d) :=
  ⟨fun i _ hi _ => ⟨hi, h ▸ hi⟩, fun _ _ => ⟨Nat.le_refl _, Nat.le_of_eq h, .inl rfl⟩, fun _ _ _ _ _ _ z => z⟩
end Bp
set_option Elab.async false
set_option linter.all false
set_option maxRecDepth 100000
set_option maxHeartbeats 1000000
/-! Own exception classes straight over any built-in one, whose __init__ is walked as a def. -/
namespace Bp
open PySem PySem.Spec PyProof.Rows L2
section
open PySem.Builtin PySem.Builtin.ObjectAttr
variable {prog : Program} {w : World} {A : Around} {R : Result → Shared → Prop} {hp : Heap} {g : Array GenState} {d : Drawn} {t : Nat} {os : OsState} {B : String} {bm : List Value}
/-- self.name = v, where the exception has no dict as yet -/
theorem first_store {K : PySem.W.Frag} {name : Str} {tk : Tok} {v : Value} {x C : Addr} {fv : Array Value} {cd : ClassData} (SF : StoreFacts B bm "object.__setattr__" "object")
    (X : K.In hp) (hx : hp.get? x = some { cls := .ref C, data := .fields fv }) (hcd : PySem.W.clsIn K C = some cd) (mro : cd.mro = .ref C :: bm) (hasD : cd.hasDict = true) (no : PySem.W.findIn K (.ref C) name = some none)
    (hq : ∀ h' tk' dx, (∀ b o, b ≠ x → hp.get? b = some o → h'.get? b = some o) → hp.objs.size ≤ dx → dx ≠ x → h'.get? x = some { cls := .ref C, dict := some dx, data := .fields fv } →
      h'.Ns1 dx (fun y => if y = name then some v else none) → R (.ok (.ret .none)) ⟨h', g, d, tk', os⟩) :
    codeAny (model prog w) A (.call (.builtin "object.__setattr__") ⟨[.ref x, .str name tk, v], []⟩) R ⟨hp, g, d, t, os⟩ := by
  have I : PySem.W.InstAt hp x { cls := .ref C, data := .fields fv } C none := ⟨hx, rfl, rfl, trivial⟩
  have apart : x ≠ hp.objs.size := Nat.ne_of_lt (Heap.lt_size hx)
  have isObj : PySem.W.mroIn K C (.type "object") = some true := by
    unfold PySem.W.mroIn
    rw [hcd, Option.bind_some, mro, List.contains_cons, SF.hasOwner, Bool.or_true]
    rfl
  have sub : PySem.W.Looks (model prog w) hp (isInstance (.ref x) (.type "object")) true := I.type.andThen (PySem.W.looks_mroIn X isObj)
  have passes : refuseLoop (.ref x) "__setattr__" cd.mro = pure () := by
    rw [mro, refuseLoop_ref]
    exact SF.passes _
  have order : PySem.W.Looks (model prog w) hp (mroOf (.ref C)) cd.mro := (PySem.W.looks_clsIn X hcd).andThen .now
  have taker : PySem.W.Looks (model prog w) hp (storeTaker? none) none := .now
  have data : PySem.W.Looks (model prog w) hp (classData C) cd := PySem.W.looks_clsIn X hcd
  refine codeAny_call_builtin SF.slot.plain SF.entry ?_
  refine @PySem.W.check_slot (model prog w) _ _ ⟨hp, g, d, t, os⟩ "object.__setattr__" "object" "__setattr__"
    (.ref x) [.str name tk, v] [] _ SF.kind SF.split sub (SF.args (.ref x) (.str name tk) v) ?_
  rw [PySem.W.osa_eq, refuse_eq]
  refine wpAny_bind (wpAny_bind (I.type.at (wpAny_bind (order.at ?_))))
  rw [passes]
  refine wpAny_pure (wpAny_bind (I.type.at (wpAny_bind ((PySem.W.looks_findIn X no).at (wpAny_bind (taker.at ?_))))))
  show wpAny _ _ (storeInOwnDict (.ref x) (.ref C) (.str name tk) name v false) _ _ _
  obtain ⟨nm, bs, mr, ns, qn, hd, sn, sb, ab, col, del⟩ := cd
  cases (show hd = true from hasD)
  unfold storeInOwnDict ownDictForStores
  repeat
    first
    | with_reducible refine PySem.HandSPX.store_in_new ?_ ?_
    | with_reducible refine wpAny_loadPart_at hx ?_
    | with_reducible refine data.at ?_
    | wp_step
  · refine ⟨_, #[], _, (Heap.get?_update_ne _ _ _ _ apart.symm).trans (Heap.get?_push_at rfl rfl), rfl, fun e he => ?_, fun _ => rfl⟩
    simp at he
  · intro h' tk' ns' but
    have hx1 : (hp.push { cls := .type "dict", data := .dict #[] }).get? x = some { cls := .ref C, data := .fields fv } := Heap.get?_push_of_some _ hx
    refine hq h' tk' hp.objs.size (fun b o hb ho => ?_) (Nat.le_refl _) apart.symm ((but.2 x apart).trans (Heap.get?_update_self _ hx1 rfl)) ns'
    have h1 := Heap.get?_push_of_some { cls := .type "dict", data := .dict #[] } ho
    exact (but.2 b (Nat.ne_of_lt (Heap.lt_size ho))).trans ((Heap.get?_update_ne _ _ _ _ hb).trans h1)
end

/-- what the written part says of such a class: straight over the built-in one whose maker is newId and whose chain is bm -/
structure Oex (K : PySem.W.Frag) (C : Addr) (newId : String) (bm : List Value) : Prop where
  cls : ∃ nm q N bs sn sub ab col dd k0 k1 k2 k3 k5, K.lookup C = some (excClassObj nm q C N bs bm true sn sub ab col dd k0 k1 k2 k3 k5 newId)
  sa : PySem.W.findIn K (.ref C) "__setattr__" = some (some (.builtin "object.__setattr__"))
  exC : PySem.W.subIn K (.ref C) (.type "BaseException") = some true
  tyC : PySem.W.typeIn K (.ref C) = some (.type "type")
  kC : PySem.W.keepIn K (.ref C) = true
section
variable {X : Cx} {pins : List (Addr × Obj)} {σ : L2.St} {H : Hp} {s : Shared} {a C : Addr} {f : Str} {y : V} {u : Value} {Q : Unit → Shared → Prop} {E : Value → Shared → Prop} {A : Around} {B newId : String} {bm : List Value}
theorem keep_first (SF : StoreFacts B bm "object.__setattr__" "object") (T : Oex X.K C newId bm) (I : Inv X pins σ H s) (e : H a = some (exo a C none)) (no : PySem.W.findIn X.K (.ref C) f = some none) (ry : RelV y u)
    (h : ∀ dx s', H dx = none → dx ≠ a → Inv X pins σ (upd (upd H dx (exd dx [(f, y)])) a (exo a C (some dx))) s' → Q () s') : wpAny (model X.prog X.w) A (setAttr (.ref a) f u) Q E s := by
  obtain ⟨nm, q, N, bs, sn, sub, ab, col, dd, k0, k1, k2, k3, k5, hC⟩ := T.cls
  have hcl : PySem.W.clsIn X.K C = some ⟨nm, bs, .ref C :: bm, N, q, true, sn, sub, ab, col, false⟩ := by
    unfold PySem.W.clsIn
    rw [hC]
  obtain ⟨t1, at_⟩ := exo_at I.hok e
  obtain ⟨hp, g, d, t, os⟩ := s
  refine PySem.W.set_plain I.kIn (ox := ⟨.ref C, none, .fields #[.ref t1, .none, .none, .none, .bool false, .none], #[]⟩) (od := none) ⟨at_, rfl, rfl, trivial⟩ T.sa ?_
  refine first_store SF I.kIn at_ hcl rfl rfl no ?_
  intro h' tk' dx kept new apart there ns
  have free : H dx = none := I.hok.fresh new
  have old : ∀ {b : Addr} {o : Obj}, hp.get? b = some o → b ≠ dx := fun z => Nat.ne_of_lt (Nat.lt_of_lt_of_le (Heap.lt_size z) new)
  have notA : ∀ {b : Addr}, H b = none → b ≠ a := fun n z => by
    rw [z, e] at n
    cases n
  have same : ∀ {b : Addr} {o : HO}, H b = some o → b ≠ a → upd (upd H dx (exd dx [(f, y)])) a (exo a C (some dx)) b = some o := fun z n => by
    rw [upd_ne n, upd_ne (ne_of_none z free)]
    exact z
  have U : Un X.fs [] H (upd (upd H dx (exd dx [(f, y)])) a (exo a C (some dx))) hp h' := by
    refine ⟨fun b o z n _ _ => kept b o (notA n) z, fun b o z n _ _ => ⟨o.slots, kept b o (notA n) z⟩, fun b o z n _ => ?_, fun b o z _ => ?_, fun b xs z => same z (at_ne e z exo_tup), fun b o v z => same z (at_ne e z exo_frz), fun b ps z => ⟨#[], ?_⟩⟩
    · rw [upd_ne (notA n), upd_ne (old z)]
      exact n
    · by_cases c : b = a
      · rw [c]
        exact ⟨_, there⟩
      · exact ⟨o, kept b o c z⟩
    · rw [same z (at_ne e z exo_tbl)]
      simp
  refine h dx _ free apart (I.un (t' := tk') U ?_)
  intro b o z
  by_cases c : b = a
  · rw [c, upd_same] at z
    rw [c]
    cases z
    exact exo_ok there
  · rw [upd_ne c] at z
    by_cases c2 : b = dx
    · rw [c2, upd_same] at z
      rw [c2]
      cases z
      exact exd_ok ns (relO_put (fs := []) ry fun _ => trivial)
    · rw [upd_ne c2] at z
      refine (I.hok b o z).stay (fun b2 v hb2 z2 => kept b2 v ?_ z2) (fun b2 z2 => same z2 (at_ne e z2 exo_own)) (fun b2 xs z2 => same z2 (at_ne e z2 exo_tup))
      rcases hb2 with rfl | hb2
      · exact c
      · exact at_ne e hb2 exo_own
/-- self.f = e, the first store into such an exception -/
def tKeep (K : PySem.W.Frag) (newId : String) (bm : List Value) (f : Str) (to te : TE) : TS := fun D σ H => te σ H fun y H1 => to σ H1 fun x H2 => ∃ a C : Addr, x = .ref a ∧ Oex K C newId bm ∧ PySem.W.findIn K (.ref C) f = some none ∧
  H2 a = some (exo a C none) ∧ ∀ dx, H2 dx = none → dx ≠ a → D.nx σ (upd (upd H2 dx (exd dx [(f, y)])) a (exo a C (some dx)))
theorem ps_keep {o e : Expr} {to te : TE} {p' pos : Pos} (SF : StoreFacts B bm "object.__setattr__" "object") (ho : PE X o to) (he : PE X e te) (hs : swapsWith e (some (.Attribute o f p')) pos.line X.env = pure false := by rfl) :
    PS X (.Assign [.Attribute o f p'] e pos) (tKeep X.K newId bm f to te) := by
  constructor
  intro pins s σ H D I h
  refine plainObj_wpAny_Assign_Attribute (thn (he.run pins s σ H _ I h) ?_) hs
  rintro v s1 ⟨y, H1, I1, r1, q1⟩
  refine thn (ho.run pins s1 σ H1 _ I1 q1) ?_
  rintro w' s2 ⟨x, H2, I2, r2, a, C, rfl, T, no, ea, q⟩
  cases (show w' = Value.ref a from r2)
  exact keep_first SF T I2 ea no r1 fun dx s' n ne J => ⟨σ, _, J, q dx n ne⟩
/-- C(e, ..), C's own __init__ keeping sp -/
theorem pmk_keep {CX : CXT} {x : Str} {fI : Addr} {k : Nat} {fd : FuncData} {ps : List Str} {sp : Sp} {ds : List Value} {dvs : List V} {e : Expr} {es : List Expr} {ta : TA} {p pos : Pos} {initId : String} (F : ExcBaseFacts B newId initId bm)
    (T : Oex X.K C newId bm) (iC : PySem.W.findIn X.K (.ref C) "__init__" = some (some (.ref fI))) (tI : PySem.W.typeIn X.K (.ref fI) = some (.type "function")) (F1 : FnOk X.prog X.w X.K X.mg X.base CX k fI fd ps sp) (hr : Room (k + 1) X.A)
    (hb : Binds X.K fd ps ds) (hd : Vals dvs ds) (hx : Passes CX X (fun _ _ _ => False)) (hg : Gl X x) (hm : X.mg x = some (.ref C)) (ha : PA X (e :: es) ta) (hdb : (x == ("__debug__" : Str)) = false := by decide)
    (he : starEach (e :: es) X.env = (false, eval e X.env) :: starEach es X.env := by rfl) (hpl : (backTo pos (starEach es X.env)).any (·.1) = false := by rfl) : PMk X (.Call (.Name x p) (e :: es) [] pos) (tMkO C sp dvs ta) := by
  intro pins s σ H Q I h
  obtain ⟨nm, q, N, bs, sn, sub, ab, col, dd, k0, k1, k2, k3, k5, hC⟩ := T.cls
  apply wpAny_Call_Name_kw
  refine ld_glob I hg hm ?_ hdb
  refine PySem.W.callWith_K (h₀ := X.base) I.ok.mod.kin T.kC (thn (ha.run pos pins s σ H _ I h) ?_) he hpl
  rintro us s1 ⟨vs, H1, I1, r1, few, q1⟩
  refine ⟨I1.kIn, ?_⟩
  show wpAny _ _ (call (.ref C) us) _ _ _
  obtain ⟨hp, g, dr, tk, os⟩ := s1
  have le : hp.objs.size ≤ hp.objs.size + 1 := Nat.le_succ _
  have asked := q1 (hp.objs.size + 1) (I1.hok.fresh le)
  let hp2 : Heap := (hp.push (PySem.W.kdv_tup us)).push (PySem.HandSPX.excO C hp.objs.size)
  have kept : ∀ b o, hp.get? b = some o → hp2.get? b = some o := fun b o z => Heap.get?_push_of_some _ (Heap.get?_push_of_some _ z)
  have new : hp2.get? (hp.objs.size + 1) = some (PySem.HandSPX.excO C hp.objs.size) := by heap_get
  have I2 : Inv X pins σ (upd H1 (hp.objs.size + 1) (exo (hp.objs.size + 1) C none)) ⟨hp2, g, dr, tk, os⟩ := I1.laid (t' := tk) (a := hp.objs.size + 1) (o := exo (hp.objs.size + 1) C none) (h' := hp2) kept le (exo_ok new)
  have r2 : Vals (V.ref (hp.objs.size + 1) :: (vs ++ dvs)) (Value.ref (hp.objs.size + 1) :: (us ++ ds)) := .cons rfl (r1.append hd)
  have n : (Value.ref (hp.objs.size + 1) :: us ++ ds).length = ps.length := by
    have z := r2.length
    rw [F1.len _ _ _ _ asked] at z
    exact z.symm
  have small : us.length ≤ sizeLine := by
    rw [← Paired.length r1]
    exact Nat.le_of_lt (small1000 few)
  have run := F1.run _ X.stack _ _ ⟨Value.ref (hp.objs.size + 1) :: us, []⟩ (Value.ref (hp.objs.size + 1) :: (us ++ ds)) _ _ (fun _ _ _ => False) (hr.make C us []) (I2.env0.make C us []) (hb _ (Value.ref (hp.objs.size + 1) :: us) I2.kIn n) r2 asked
  refine wpAny_call (PySem.HandSPX.call_own F (fun _ => rfl) (I1.kIn _ _ hC) (PySem.W.looks_findIn I1.kIn iC) (fun self => PySem.W.bind_fn I1.kIn self tI) small (codeAny_mono run ?_))
  intro r s' z
  match r, z with
  | .error er, z => exact hx pins σ _ _ er s' I2 z
  | .ok .next, z => exact z.elim
  | .ok .brk, z => exact z.elim
  | .ok .cont, z => exact z.elim
  | .ok (.ret v'), z =>
    obtain ⟨v, H2, os2, bare2, un2, hok2, rv, rfl, d, fs, ea, ed, free, q2⟩ := z
    obtain ⟨h2, g2, d2, t2, os'⟩ := s'
    exact ⟨rv, mk_end (raises_own T.exC T.tyC) I1 le kept un2 hok2 os2 bare2 ea ed free q2⟩
end

/-! ### isinstance of the caught error and a built-in class above its own -/
theorem isinstance_own {prog : Program} {w : World} {A : Around} {E : Value → Shared → Prop} {s : Shared} {K : PySem.W.Frag} {x D : Addr} {o : Obj} {T : String} {Q : Value → Shared → Prop} (X : K.In s.heap) (hx : s.heap.get? x = some o) (hc : o.cls = .ref D)
    (ty : typeOf (.type T) = pure (.type "type")) (sub : PySem.W.subIn K (.ref D) (.type T) = some true) (h : Q (.bool true) s) : wpAny (model prog w) A (call (.builtin "isinstance") [.ref x, .type T]) Q E s := by
  apply call_isinstance_of
  · unfold Builtin.«isinstance.nested»
    have L : PySem.W.Looks (model prog w) s.heap (typeOf (.ref x)) (.ref D) := hc ▸ (PySem.W.Looks.ld hx).andThen .now
    refine wpAny_bind (L.here ?_)
    show wpAny _ _ (if (Value.ref D == Value.type T) = true then _ else _) _ _ s
    rw [if_neg (show ¬ ((Value.ref D == Value.type T) = true) from Bool.false_ne_true)]
    refine wpAny_bind (m := typeOf (.type T))
      (wpAny_of_eq ty ?_)
    show wpAny _ _ (if (Value.type "type" == Value.type "type") = true then _ else _) _ _ s
    rw [if_pos (by decide)]
    refine wpAny_bind (wpAny_bind (m := isType (.type T))
      (wpAny_pure (a := true) ?_))
    have L2 : PySem.W.Looks (model prog w) s.heap (isInstance (.ref x) (.type T)) true := L.andThen (PySem.W.looks_subIn X sub)
    refine wpAny_bind (L2.here ?_)
    exact wpAny_pure (wpAny_pure h)
  · intro z
    cases z
def rIsUp (a : Addr) (cls : Value) (K : PySem.W.Frag) : List V → Hp → VK → Prop := fun xs H Q => ∃ (D : Addr) (T : String), xs = [.ref a, .ty T] ∧ cls = .ref D ∧ typeOf (.type T) = pure (.type "type") ∧ PySem.W.subIn K (.ref D) (.type T) = some true ∧ Q (.bl true) H
theorem call_isUp {X : Cx} {a : Addr} {cls : Value} {d : Option Addr} {oe : Obj} {pn : List (Addr × Obj)} (hz : Zc cls d oe) : CallR (X.suite a ((a, oe) :: pn)) (.builtin "isinstance") (rIsUp a cls X.K) := by
  intro pins s σ H xs us Q I r h
  obtain ⟨D, T, rfl, rfl, ty, sub, q⟩ := h
  obtain ⟨u1, u2, rfl, r1, r2⟩ := vals2 r
  cases (show u1 = Value.ref a from r1)
  cases (show u2 = Value.type T from r2)
  obtain ⟨there, _⟩ := I.pin (a, oe) (List.mem_append.mpr (.inl (List.mem_cons_self ..)))
  exact isinstance_own I.kIn there hz.1 ty sub ⟨.bl true, H, I, rfl, q⟩
end Bp
set_option Elab.async false
set_option linter.all false
set_option maxRecDepth 100000
/-! A dict from which a law draws its digits: its cells, which one is next, what is left of a great one. -/
namespace Bp
open PySem PySem.Spec PyProof.Rows L2
theorem k_ca : ¬ (("cells" : Str) = "at") := by decide +kernel
theorem k_cl : ¬ (("cells" : Str) = "left") := by decide +kernel
theorem k_al : ¬ (("at" : Str) = "left") := by decide +kernel
def feedKvs (c : Addr) (a l : Int) : List (Key × V) := [(.inr "cells", .ref c), (.inr "at", .int a), (.inr "left", .int l)]
theorem inr_ne {x y : Str} (h : ¬ x = y) : ¬ (Sum.inr x : Key) = Sum.inr y := fun e => h (Sum.inr.inj e)
theorem feed_cells (c : Addr) (a l : Int) : valV (feedKvs c a l) (.inr "cells") = some (.ref c) := valV_pos rfl
theorem feed_at (c : Addr) (a l : Int) : valV (feedKvs c a l) (.inr "at") = some (.int a) := by
  unfold feedKvs
  rw [valV_neg (inr_ne k_ca), valV_pos rfl]
theorem feed_left (c : Addr) (a l : Int) : valV (feedKvs c a l) (.inr "left") = some (.int l) := by
  unfold feedKvs
  rw [valV_neg (inr_ne k_cl), valV_neg (inr_ne k_al), valV_pos rfl]
theorem feed_put_at (c : Addr) (a l b : Int) : putK (feedKvs c a l) (.inr "at") (.int b) = feedKvs c b l := by
  unfold putK
  rw [if_pos (by rw [valV_any, feed_at]; rfl)]
  unfold feedKvs
  simp only [List.map_cons, List.map_nil]
  rw [if_neg (inr_ne k_ca), if_pos True.intro, if_neg (inr_ne fun e => k_al e.symm)]
theorem feed_put_left (c : Addr) (a l b : Int) : putK (feedKvs c a l) (.inr "left") (.int b) = feedKvs c a b := by
  unfold putK
  rw [if_pos (by rw [valV_any, feed_left]; rfl)]
  unfold feedKvs
  simp only [List.map_cons, List.map_nil]
  rw [if_neg (inr_ne k_cl), if_neg (inr_ne k_al), if_pos True.intro]
theorem feed_made (c : Addr) (a l : Int) : mergeK [] (feedKvs c a l) = feedKvs c a l := by
  have e1 : putK ([] : List (Key × V)) (.inr "cells") (.ref c) = [(.inr "cells", .ref c)] := putK_new _ rfl
  have e2 : putK ([(.inr "cells", .ref c)] : List (Key × V)) (.inr "at") (.int a) = [(.inr "cells", .ref c), (.inr "at", .int a)] := putK_new _ (by rw [valV_neg (inr_ne k_ca)]; rfl)
  have e3 : putK ([(.inr "cells", .ref c), (.inr "at", .int a)] : List (Key × V)) (.inr "left") (.int l) = feedKvs c a l := putK_new _ (by rw [valV_neg (inr_ne k_cl), valV_neg (inr_ne k_al)]; rfl)
  show putK (putK (putK ([] : List (Key × V)) (.inr "cells") (.ref c)) (.inr "at") (.int a)) (.inr "left") (.int l) = _
  rw [e1, e2, e3]
/-- a feed at f, of which at most n cells have been drawn -/
structure Fed where
  f : Addr
  c : Addr
  ns : List Int
def FeedAt (K : PySem.W.Frag) (H : Hp) (g : Fed) (n : Nat) : Prop :=
  ∃ (a l : Int), H g.f = some (.dK (feedKvs g.c a l)) ∧ SqL K H g.c (g.ns.map V.int) ∧ 0 ≤ a ∧ a ≤ n ∧ 0 ≤ l
/-- all but what is at f is as it was -/
def Kept (f : Addr) (H H' : Hp) : Prop := ∀ b o, b ≠ f → H b = some o → H' b = some o
theorem Kept.refl (f : Addr) (H : Hp) : Kept f H H := fun _ _ _ e => e
theorem Kept.trans {f : Addr} {H H1 H2 : Hp} (a : Kept f H H1) (b : Kept f H1 H2) : Kept f H H2 := fun c o n e => b c o n (a c o n e)
theorem Kept.of {f : Addr} {H H1 : Hp} (a : Same H H1) : Kept f H H1 := fun b o _ e => a b o e
theorem Kept.put {f : Addr} {H : Hp} (o : HO) : Kept f H (upd H f o) := fun b u n e => by
  rw [upd_ne n]
  exact e
theorem Kept.seq {K : PySem.W.Frag} {f a : Addr} {H H1 : Hp} {kvs : List (Key × V)} {xs : List V} (k : Kept f H H1) (hf : H f = some (.dK kvs)) (h : SqL K H a xs) : SqL K H1 a xs := by
  rcases h with (h | ⟨o, h⟩) | h
  · exact .inl (.inl (k _ _ (ne_of h hf (by intro z; cases z)) h))
  · exact .inl (.inr ⟨o, k _ _ (ne_of h hf (by intro z; cases z)) h⟩)
  · exact .inr h
theorem FeedAt.le {K : PySem.W.Frag} {H : Hp} {g : Fed} {n m : Nat} (h : FeedAt K H g n) (le : n ≤ m) : FeedAt K H g m := by
  obtain ⟨a, l, e, s, h0, h1, h2⟩ := h
  exact ⟨a, l, e, s, h0, by omega, h2⟩
theorem FeedAt.same {K : PySem.W.Frag} {H H' : Hp} {g : Fed} {n : Nat} (h : FeedAt K H g n) (s : Same H H') : FeedAt K H' g n := by
  obtain ⟨a, l, e, q, h0, h1, h2⟩ := h
  exact ⟨a, l, s _ _ e, s.seq q, h0, h1, h2⟩
theorem FeedAt.dict {K : PySem.W.Frag} {H : Hp} {g : Fed} {n : Nat} (h : FeedAt K H g n) : ∃ kvs, H g.f = some (.dK kvs) := by
  obtain ⟨a, l, e, _⟩ := h
  exact ⟨_, e⟩
theorem FeedAt.ne {K : PySem.W.Frag} {H : Hp} {g : Fed} {b : Addr} {n : Nat} (h : FeedAt K H g n) (hb : H b = none) : b ≠ g.f := by
  obtain ⟨kvs, e⟩ := h.dict
  exact fun z => by
    rw [z, e] at hb
    cases hb
/-- it lives on where a thing made later is changed -/
theorem FeedAt.put {K : PySem.W.Frag} {H H0 : Hp} {g : Fed} {D : Addr} {n m : Nat} {o : HO} (h0 : FeedAt K H0 g m) (e : H0 D = none) (h : FeedAt K H g n) : FeedAt K (upd H D o) g n := by
  have nf := h0.ne e
  obtain ⟨a, l, ef, s, b0, b1, b2⟩ := h
  obtain ⟨_, _, _, s0, _⟩ := h0
  refine ⟨a, l, by rw [upd_ne (fun z => nf z.symm)]; exact ef, ?_, b0, b1, b2⟩
  rcases s with (s | ⟨o2, s⟩) | s
  · by_cases c : g.c = D
    · rcases s0 with (s0 | ⟨o2, s0⟩) | s0
      · rw [c, e] at s0
        cases s0
      · rw [c, e] at s0
        cases s0
      · exact .inr s0
    · exact .inl (.inl (by rw [upd_ne c]; exact s))
  · by_cases c : g.c = D
    · rcases s0 with (s0 | ⟨o2, s0⟩) | s0
      · rw [c, e] at s0
        cases s0
      · rw [c, e] at s0
        cases s0
      · exact .inr s0
    · exact .inl (.inr ⟨o2, by rw [upd_ne c]; exact s⟩)
  · exact .inr s
/-! ### lists of whole numbers as data -/
theorem dp_ints {K : PySem.W.Frag} {H : Hp} {a : Addr} {ns : List Int} (h : SqL K H a (ns.map V.int)) : Dp K H (.ref a) (.list (ns.map PyData.int)) := by
  have all : ∀ l : List Int, DpAll K H (l.map V.int) (l.map PyData.int) := by
    intro l
    induction l with
    | nil => exact .nil
    | cons m l ih => exact .cons (.int _) ih
  exact .lst h (all ns)
theorem lay_ints (ns : List Int) : PyData.canLayAll0 (ns.map PyData.int) = true := by
  induction ns with
  | nil => rw [List.map_nil, PyData.canLayAll0]
  | cons m l ih => rw [List.map_cons, PyData.canLayAll0, ih, PyData.canLay0]; rfl
theorem depth_ints (ns : List Int) : PyData.depthAll (ns.map PyData.int) = 0 := by
  induction ns with
  | nil => rw [List.map_nil, PyData.depthAll]
  | cons m l ih => rw [List.map_cons, PyData.depthAll, ih, PyData.depth]; rfl
theorem shaped_ints (ns : List Int) : SeqAt.shaped (.list (ns.map PyData.int)) = true := by
  unfold SeqAt.shaped
  rw [PyData.canLay0, lay_ints, PyData.depth, depth_ints, Bool.true_and]
  exact decide_eq_true (by decide)
theorem eqv_nil (ns : List Int) : PyData.eqv (.list (ns.map PyData.int)) (.list []) = decide (ns = []) := by
  cases ns with
  | nil => rw [List.map_nil, PyData.eqv, PyData.eqvAll]; rfl
  | cons m l => rw [List.map_cons, PyData.eqv, PyData.eqvAll]; rfl
theorem get_cells {H : Hp} {f c : Addr} {a l : Int} (e : H f = some (.dK (feedKvs c a l))) : DGet H f (.str "cells") (some (.ref c)) := feed_cells c a l ▸ DGet.k (k := Sum.inr "cells") e
theorem get_at {H : Hp} {f c : Addr} {a l : Int} (e : H f = some (.dK (feedKvs c a l))) : DGet H f (.str "at") (some (.int a)) := feed_at c a l ▸ DGet.k (k := Sum.inr "at") e
theorem get_left {H : Hp} {f c : Addr} {a l : Int} (e : H f = some (.dK (feedKvs c a l))) : DGet H f (.str "left") (some (.int l)) := feed_left c a l ▸ DGet.k (k := Sum.inr "left") e
theorem three_few (c : Addr) (a l : Int) : (feedKvs c a l).length < sizeLine := by show 3 < sizeLine; decide
theorem put_at {H : Hp} {f c : Addr} {a l b : Int} (e : H f = some (.dK (feedKvs c a l))) : DPut H f (.str "at") (.int b) (upd H f (.dK (feedKvs c b l))) := feed_put_at c a l b ▸ DPut.k (k := Sum.inr "at") e (three_few c a l)
theorem put_left {H : Hp} {f c : Addr} {a l b : Int} (e : H f = some (.dK (feedKvs c a l))) : DPut H f (.str "left") (.int b) (upd H f (.dK (feedKvs c a b))) := feed_put_left c a l b ▸ DPut.k (k := Sum.inr "left") e (three_few c a l)
end Bp
set_option Elab.async false
set_option linter.all false
/-! Maps of signs, done again and again. -/
namespace K33
open Bp
/-- first one, then other -/
def thn (s one other : List Nat) : List Nat := one.map fun c => other.getD (s.idxOf c) 0
/-- a map of the signs s -/
def IsMap (s m : List Nat) : Prop := m.length = s.length ∧ ∀ c ∈ m, c ∈ s
theorem isMap_self (s : List Nat) : IsMap s s := ⟨rfl, fun _ h => h⟩
theorem getD_mem {l : List Nat} {i : Nat} (h : i < l.length) : l.getD i 0 ∈ l := by
  rw [List.getD_eq_getElem?_getD, List.getElem?_eq_getElem h]
  exact List.getElem_mem h
theorem isMap_thn {s one other : List Nat} (h1 : IsMap s one) (h2 : IsMap s other) : IsMap s (thn s one other) := by
  refine ⟨by unfold thn; rw [List.length_map]; exact h1.1, fun c hc => ?_⟩
  obtain ⟨d, hd, rfl⟩ := List.mem_map.mp hc
  exact h2.2 _ (getD_mem (by rw [h2.1]; exact List.idxOf_lt_length_of_mem (h1.2 d hd)))
/-- one done n times -/
def pw (s one : List Nat) : Nat → List Nat
  | 0 => s
  | n + 1 => thn s (pw s one n) one
theorem isMap_pw {s one : List Nat} (h : IsMap s one) : ∀ n, IsMap s (pw s one n)
  | 0 => isMap_self s
  | n + 1 => isMap_thn (isMap_pw h n) h
/-- one done 0, 1, .. n - 1 times -/
def pws (s one : List Nat) (n : Nat) : List (List Nat) := (List.range n).map (pw s one)
theorem pws_len (s one : List Nat) (n : Nat) : (pws s one n).length = n := by unfold pws; rw [List.length_map, List.length_range]
theorem pws_succ (s one : List Nat) (n : Nat) : pws s one (n + 1) = pws s one n ++ [pw s one n] := by
  unfold pws
  rw [List.range_succ, List.map_append]
  rfl
theorem pws_get {s one : List Nat} {n i : Nat} (h : i < n) : (pws s one n)[i]? = some (pw s one i) := by
  unfold pws
  rw [List.getElem?_map, List.getElem?_range h]
  rfl
/-- n is the first number at which it comes again -/
def Cyc (s one : List Nat) (n : Nat) : Prop := pw s one n ∈ pws s one n ∧ ∀ m, m < n → pw s one m ∉ pws s one m
theorem Cyc.one {s o : List Nat} {n m : Nat} (h : Cyc s o n) (h' : Cyc s o m) : n = m := by
  rcases Nat.lt_trichotomy n m with z | z | z
  · exact absurd h.1 (h'.2 n z)
  · exact z
  · exact absurd h'.1 (h.2 m z)
theorem Cyc.pos {s o : List Nat} {n : Nat} (h : Cyc s o n) : 1 ≤ n := by
  rcases n with _ | n
  · have := h.1
    unfold pws at this
    simp at this
  · omega
/-! ### they come again -/
def alls (s : List Nat) : Nat → List (List Nat)
  | 0 => [[]]
  | k + 1 => s.flatMap fun c => (alls s k).map (c :: ·)
theorem alls_len (s : List Nat) : ∀ k, (alls s k).length = s.length ^ k
  | 0 => rfl
  | k + 1 => by
    unfold alls
    rw [List.length_flatMap]
    have : (s.map fun a => ((alls s k).map (a :: ·)).length) = s.map fun _ => s.length ^ k := List.map_congr_left fun a _ => by rw [List.length_map, alls_len s k]
    rw [this]
    have sum : ∀ (l : List Nat) (x : Nat), (l.map fun _ => x).sum = l.length * x := by
      intro l x
      induction l with
      | nil => simp
      | cons a l ih => rw [List.map_cons, List.sum_cons, ih, List.length_cons, Nat.succ_mul, Nat.add_comm]
    rw [sum, Nat.pow_succ, Nat.mul_comm]
theorem mem_alls {s : List Nat} : ∀ {m : List Nat}, (∀ c ∈ m, c ∈ s) → m ∈ alls s m.length
  | [], _ => List.mem_singleton.mpr rfl
  | c :: m, h => by
    show c :: m ∈ s.flatMap fun c => (alls s m.length).map (c :: ·)
    exact List.mem_flatMap.mpr ⟨c, h c (List.mem_cons_self ..), List.mem_map.mpr ⟨m, mem_alls fun d hd => h d (List.mem_cons_of_mem _ hd), rfl⟩⟩
theorem nodup_le {α : Type} [DecidableEq α] : ∀ {l m : List α}, l.Nodup → (∀ x ∈ l, x ∈ m) → l.length ≤ m.length
  | [], _, _, _ => Nat.zero_le _
  | a :: l, m, nd, h => by
    obtain ⟨na, nd'⟩ := List.nodup_cons.mp nd
    have ha : a ∈ m := h a (List.mem_cons_self ..)
    have le := nodup_le (l := l) (m := m.erase a) nd' fun x hx => (List.mem_erase_of_ne (by intro e; subst e; exact na hx)).mpr (h x (List.mem_cons_of_mem _ hx))
    rw [List.length_erase_of_mem ha] at le
    have : 0 < m.length := List.length_pos_of_mem ha
    rw [List.length_cons]
    omega
theorem pws_nodup {s one : List Nat} : ∀ {n : Nat}, (∀ m, m < n → pw s one m ∉ pws s one m) → (pws s one n).Nodup
  | 0, _ => by unfold pws; exact List.nodup_nil
  | n + 1, h => by
    rw [pws_succ]
    refine List.nodup_append.mpr ⟨pws_nodup fun m hm => h m (by omega), List.nodup_cons.mpr ⟨by simp, List.nodup_nil⟩, ?_⟩
    intro a ha b hb e
    rw [List.mem_singleton.mp hb] at e
    exact h n (Nat.lt_succ_self _) (e ▸ ha)
theorem pws_few {s one : List Nat} (hs : s.length ≤ 4) (h : IsMap s one) {n : Nat} (no : ∀ m, m < n → pw s one m ∉ pws s one m) : n ≤ 256 := by
  have nd := pws_nodup no
  have le := nodup_le nd (m := alls s s.length) fun x hx => by
    unfold pws at hx
    obtain ⟨i, _, rfl⟩ := List.mem_map.mp hx
    have := isMap_pw h i
    rw [← this.1]
    exact mem_alls this.2
  rw [pws_len, alls_len] at le
  have : s.length ^ s.length ≤ 4 ^ 4 := Nat.le_trans (Nat.pow_le_pow_left hs _) (Nat.pow_le_pow_right (by decide) hs)
  omega
/-! ### one to one: sorted it is the signs just where each sign is there -/
/-- the signs: unlike, rising, two to four -/
structure Signs (s : List Nat) : Prop where
  up : s.Pairwise (· < ·)
  lo : 2 ≤ s.length
  hi : s.length ≤ 4
  small : ∀ c ∈ s, 97 ≤ c ∧ c ≤ 122
theorem Signs.nd {s : List Nat} (h : Signs s) : s.Nodup := h.up.imp fun {a b} z e => by omega
theorem perm_of_all {s m : List Nat} (nd : s.Nodup) (hm : IsMap s m) (all : ∀ c ∈ s, c ∈ m) : m.Perm s := by
  -- s lies in m, and both are as long
  have key : ∀ (s m : List Nat), s.Nodup → m.length = s.length → (∀ c ∈ s, c ∈ m) → m.Perm s := by
    intro s
    induction s with
    | nil =>
      intro m _ hl _
      rw [List.length_eq_zero_iff.mp hl]
    | cons a s ih =>
      intro m nd hl h
      obtain ⟨na, nd'⟩ := List.nodup_cons.mp nd
      have ha : a ∈ m := h a (List.mem_cons_self ..)
      have p := List.perm_cons_erase ha
      refine p.trans (List.Perm.cons a (ih _ nd' ?_ ?_))
      · rw [List.length_erase_of_mem ha, hl]
        rfl
      · intro c hc
        exact (List.mem_erase_of_ne (by intro e; subst e; exact na hc)).mpr (h c (List.mem_cons_of_mem _ hc))
  exact key s m nd hm.1 all
/-! ### sorted texts of one sign each -/
open PySem PyProof.Rows in
theorem rising_ones : ∀ (r : List Nat) (p : Nat), risingS (tx [p]) (ones r) = true → (p :: r).Pairwise (· ≤ ·)
  | [], p, _ => List.pairwise_singleton _ _
  | x :: r, p, h => by
    have h' : (!PySem.Spec.ltCps (tx [x]).cps.toList (tx [p]).cps.toList && risingS (tx [x]) (ones r)) = true := h
    obtain ⟨h1, h2⟩ := Bool.and_eq_true_iff.mp h'
    have ih := rising_ones r x h2
    have le : p ≤ x := by
      rw [ltCps_eq, tx_list, tx_list] at h1
      have : ¬ ([x] < [p]) := by
        intro z
        rw [decide_eq_true z] at h1
        cases h1
      rcases Nat.lt_or_ge x p with z | z
      · exact absurd (List.Lex.rel z) this
      · exact z
    refine List.pairwise_cons.mpr ⟨fun y hy => ?_, ih⟩
    rcases List.mem_cons.mp hy with rfl | hy
    · exact le
    · exact Nat.le_trans le ((List.pairwise_cons.mp ih).1 y hy)
open PySem PyProof.Rows in
theorem sorted_ones : ∀ {r : List Nat}, sortedS (ones r) = true → r.Pairwise (· ≤ ·)
  | [], _ => List.Pairwise.nil
  | x :: r, h => rising_ones r x h
open PySem in
theorem ones_inj : ∀ {a b : List Nat}, ones a = ones b → a = b
  | [], [], _ => rfl
  | [], _ :: _, h => by cases h
  | _ :: _, [], h => by cases h
  | x :: a, y :: b, h => by
    have h' : tx [x] :: ones a = tx [y] :: ones b := h
    obtain ⟨h1, h2⟩ := List.cons.inj h'
    have e := tx_inj h1
    rw [List.singleton_inj.mp e, ones_inj h2]
open PySem in
theorem perm_ones {ys : List Str} {m : List Nat} (h : ys.Perm (ones m)) : ∃ zs, ys = ones zs ∧ zs.Perm m := by
  refine ⟨ys.map fun y => y.cps.toList.headD 0, ?_, ?_⟩
  · unfold ones
    rw [List.map_map]
    refine (List.map_id ys).symm.trans (List.map_congr_left fun y hy => ?_)
    obtain ⟨c, _, rfl⟩ := List.mem_map.mp (h.mem_iff.mp hy)
    show tx [c] = tx [(tx [c]).cps.toList.headD 0]
    rw [tx_list]
    rfl
  · have p := h.map fun y : Str => y.cps.toList.headD 0
    unfold ones at p
    rw [List.map_map] at p
    have e : m.map ((fun y : Str => y.cps.toList.headD 0) ∘ fun c => tx [c]) = m := by
      refine (List.map_congr_left fun c _ => ?_).trans (List.map_id m)
      show (tx [c]).cps.toList.headD 0 = c
      rw [tx_list]
      rfl
    rwa [e] at p
open PySem PyProof.Rows in
/-- sorted, a map is the signs just where each sign is in it -/
theorem sorted_is {s m : List Nat} (hs : Signs s) (hm : IsMap s m) {ys : List Str} (p : ys.Perm (ones m)) (srt : sortedS ys = true) : ys = ones s ↔ ∀ c ∈ s, c ∈ m := by
  obtain ⟨zs, rfl, pz⟩ := perm_ones p
  constructor
  · intro e c hc
    rw [← ones_inj e] at hc
    exact pz.mem_iff.mp hc
  · intro all
    have pm := perm_of_all hs.nd hm all
    have up := sorted_ones srt
    have us : s.Pairwise (· ≤ ·) := hs.up.imp fun {a b} z => Nat.le_of_lt z
    rw [List.Perm.eq_of_pairwise (le := (· ≤ ·)) (fun a b _ _ h1 h2 => Nat.le_antisymm h1 h2) up us (pz.trans pm)]
end K33
set_option Elab.async false
set_option linter.all false
set_option maxRecDepth 100000
set_option maxHeartbeats 1000000
/-! The program's maps. -/
namespace K33
open PySem PySem.Spec PyProof.Rows L2 Bp
/-! ### the text -/
def topS (i : Nat) : Stmt := PySem.Challenge.pw_bandprint_k33_maps_of_signs.main.body.getD i (.Pass ⟨0, 0, 0, 0⟩)
abbrev sTog : Stmt := topS 3
abbrev sPows : Stmt := topS 4
abbrev sPow : Stmt := topS 5
abbrev sRound : Stmt := topS 6
abbrev sTimes : Stmt := topS 7
abbrev sIsOne : Stmt := topS 8
abbrev sTurn : Stmt := topS 9
abbrev sSrc : Stmt := topS 10
section
variable {P : Program} {w : World} {K : PySem.W.Frag} {mg : Str → Option Value} {base : Heap}
theorem same_upd {H : Hp} {p : Addr} {o : HO} (h : H p = none) : Same H (upd H p o) := fun b x e => by
  rw [upd_ne (ne_of_none e h)]
  exact e
/-! ### together -/
theorem scTog : FnScope ["signs", "one", "other", "sign"] ["signs", "one", "other"] (defScope sTog) := ⟨rfl, rfl, rfl, by decide +kernel, rfl, by decide +kernel, by decide +kernel⟩
def spTog : Sp := fun vs H Q _ => ∃ s one other : List Nat, vs = [.str (tx s), .str (tx one), .str (tx other)] ∧ s.length ≤ 1000 ∧ one.length ≤ 1000 ∧ other.length = s.length ∧ (∀ c ∈ one, c ∈ s) ∧ ∀ H', Same H H' → Q (.str (tx (thn s one other))) H'
theorem ok_tog {f : Addr} {fd : FuncData} {k : Nat} (F : Fun K "together" "together" sTog f fd) : FnOk P w K mg base CX0 (k + 1) f fd ["signs", "one", "other"] spTog := by
  refine F.ok scTog (fun vs H Q E h => ?_) (fun cdv A outer s H vs Q E hr h => ?_)
  · obtain ⟨s, one, other, rfl, _⟩ := h
    rfl
  · obtain ⟨s, one, other, rfl, hs, ho, hq, hin, q⟩ := h
    refine ⟨_, pss_one (ps_ret (pe_join pe_str (pe_lc (own := [("sign", 3)]) (g := gName 3) (tt := tYes) rfl scTog.nd (pi_str (pv 1)) (blkOk_by (own := [("sign", 3)]) (N := ["signs", "one", "other", "sign"]) (sc := defScope sTog) (by decide +kernel))
      (fun _ _ _ _ _ => pg_name (i := 3) scTog.nd rfl (Or.inl rfl)) (fun _ _ _ _ _ => pts_nil) (fun _ _ _ _ _ => pe_ix ix_str (pv 2) (pe_m1 PySem.F.slot_str_index PySem.F.type_str_index mt_sindex (pv 0) (pv 3)) (fun _ _ => rfl))))), ?_⟩
    refine ⟨⟨_, rfl⟩, .str (tx one), rfl, tx one, rfl, fun D nD => ?_⟩
    refine lc_tx (H := H) (walk_str (z := tx one)) (fun _ _ => trivial) (fun i => thn s (one.take i) other) rfl (fun i _ => ?_) nD ?_ ?_
    · unfold thn
      rw [List.length_map, List.length_take]
      omega
    · rintro i x H1 H2 Qy Qn hi sm ⟨rfl, c, hc, rfl⟩ qy _
      have hc' : one[i]? = some c := by rw [← tx_list one, Array.getElem?_toList]; exact hc
      have inS : c ∈ s := hin c (List.mem_of_getElem? hc')
      have lt : s.idxOf c < other.length := by rw [hq]; exact List.idxOf_lt_length_of_mem inS
      refine ⟨rfl, yes_kept ?_⟩
      refine ⟨.str (tx other), rfl, .str (tx s), rfl, ⟨_, rfl⟩, .str (tx [c]), rfl, tx s, tx [c], s.idxOf c, [], rfl, rfl, occ_first inS, tx other, _, other[s.idxOf c], rfl, rfl, ?_, ?_, qy _ _ (Same.refl _) ?_⟩
      · rw [tx_len, hq]
        exact Nat.le_of_lt (small1000 hs)
      · rw [tx_list]
        exact atI_nat (List.getElem?_eq_getElem lt)
      · rw [List.take_add_one, hc']
        unfold thn
        rw [List.map_append]
        show _ ++ [other.getD (s.idxOf c) 0] = _
        rw [List.getD_eq_getElem?_getD, List.getElem?_eq_getElem lt]
        rfl
    · intro H1 sm hD
      have all : one.take (tx one).cps.size = one := List.take_of_length_le (Nat.le_of_eq (tx_len one).symm)
      rw [all] at hD
      refine ⟨tx [], D, ones (thn s one other), tx_nil ▸ rfl, rfl, .inl (SqL.of hD), ?_, ?_⟩
      · rw [ones_sum, ones_len, tx_len]
        unfold thn
        rw [List.length_map]
        simp
        omega
      · show Q _ H1
        rw [ones_join]
        exact q H1 sm
/-! ### powers -/
theorem scPows : FnScope ["signs", "one", "found", "following"] ["signs", "one"] (defScope sPows) := ⟨rfl, rfl, rfl, by decide +kernel, rfl, by decide +kernel, by decide +kernel⟩
def spPows : Sp := fun vs H Q _ => ∃ s one : List Nat, vs = [.str (tx s), .str (tx one)] ∧ Signs s ∧ IsMap s one ∧
  ∀ N H' t l, Cyc s one N → N ≤ 256 → Same H H' → H t = none → H' t = some (.tup [.ref l, .int ((pws s one N).idxOf (pw s one N) : Nat)]) → H' l = some (.lst (txs (pws s one N))) → Q (.ref t) H'
theorem ok_pows {f fT : Addr} {fd fdT : FuncData} {k : Nat} (F : Fun K "powers" "powers" sPows f fd) (FT : Fun K "together" "together" sTog fT fdT) (bT : Binds K fdT ["signs", "one", "other"] []) (gT : mg "together" = some (.ref fT)) :
    FnOk P w K mg base CX0 (k + 2) f fd ["signs", "one"] spPows := by
  have GT : FnOk P w K mg base CX0 (k + 1) fT fdT ["signs", "one", "other"] spTog := ok_tog FT
  refine F.ok scPows (fun vs H Q E h => ?_) (fun cdv A outer s H vs Q E hr h => ?_)
  · obtain ⟨s, one, rfl, _⟩ := h
    rfl
  · obtain ⟨s, one, rfl, hs, hm, q⟩ := h
    refine ⟨_, pss_cons (ps_set (i := 2) scPows.nd rfl (.inl rfl) (pe_lst (pa_cons (pv 0) pa_nil)))
      (pss_one (ps_while PassesOwn.never (pt_val pe_bl)
        (pss_cons (ps_set (i := 3) scPows.nd rfl (.inl rfl) (pe_call GT hr rfl gT FT.kp bT .nil pass0 (pa_cons (pv 0) (pa_cons (pe_ix ix_list (pv 2) (pe_un un_neg pe_int) (fun _ _ => rfl)) (pa_cons (pv 1) pa_nil)))))
        (pss_cons (ps_if (pt_cmpR op_in_seq (pv 3) (pv 2) (by rfl)) (pss_one (ps_ret (pe_tup (pa_cons (pv 2) (pa_cons (pe_bm PySem.F.plainAttrs_list PySem.F.slot_list_index PySem.F.type_list_index mt_index (pv 2) (pa_cons (pv 3) pa_nil)) pa_nil))))) pss_nil)
        (pss_one (ps_expr (pe_bm PySem.F.plainAttrs_list PySem.F.slot_list_append PySem.F.type_list_append mt_append (pv 2) (pa_cons (pv 3) pa_nil)))))))), ?_⟩
    refine ⟨_, rfl, (by show 1 ≤ sizeLine; decide), fun l nl => ?_⟩
    refine ⟨fun m σ H1 => ∃ n v3, σ = [some (.str (tx s)), some (.str (tx one)), some (.ref l), v3] ∧ n + m = 300 ∧ 1 ≤ n ∧ (∀ i, i < n → pw s one i ∉ pws s one i) ∧ Same H H1 ∧ H1 l = some (.lst (txs (pws s one n))), ⟨299, 1, none, rfl, rfl, Nat.le_refl _, ?_, same_upd nl, upd_same⟩, ?_⟩
    · intro i hi
      have : i = 0 := by omega
      subst this
      exact fun z => by
        unfold pws at z
        simp at z
    · rintro m σ H1 ⟨n, v3, rfl, hn, n1, no, sm, hl⟩
      have few := pws_few hs.hi hm no
      have last : (pws s one n)[n - 1]? = some (pw s one (n - 1)) := pws_get (by omega)
      have at_ : atI (txs (pws s one n)) (-1) = some (.str (tx (pw s one (n - 1)))) := by
        obtain ⟨k, rfl⟩ : ∃ k, n = k + 1 := ⟨n - 1, by omega⟩
        rw [pws_succ, txs_snoc]
        exact atI_last _ _
      have mp := isMap_pw hm (n - 1)
      have ls := hs.hi
      refine ⟨true, rfl, iteT ⟨fun σ' H' => ∃ v3, σ' = [some (.str (tx s)), some (.str (tx one)), some (.ref l), v3] ∧ (∀ i, i < n + 1 → pw s one i ∉ pws s one i) ∧ Same H H' ∧ H' l = some (.lst (txs (pws s one (n + 1)))), ?_, ?_⟩⟩
      · rintro σ' H' ⟨v3, e, no', sm', hl'⟩
        exact ⟨m - 1, by omega, n + 1, v3, e, by omega, by omega, no', sm', hl'⟩
      · -- following = together(signs, found[-1], one)
        refine ⟨.str (tx s), rfl, .ref l, rfl, 1, rfl, l, _, -1, _, rfl, rfl, SqL.of hl, at_, .str (tx one), rfl, s, pw s one (n - 1), one, rfl, by omega, by rw [mp.1]; omega, hm.1, mp.2, fun H2 s2 => ?_⟩
        have next : thn s (pw s one (n - 1)) one = pw s one n := by
          obtain ⟨k, rfl⟩ : ∃ k, n = k + 1 := ⟨n - 1, by omega⟩
          rfl
        rw [next]
        have hl2 := s2 _ _ hl
        refine ⟨.str (tx (pw s one n)), rfl, .ref l, rfl, l, txs (pws s one n), rfl, .inl (SqL.of hl2), rfl, txs_flat _, _, rfl, ?_⟩
        show if inV (.str (tx (pw s one n))) (txs (pws s one n)) = true then _ else _
        rw [inV_txs]
        by_cases c : pw s one n ∈ pws s one n
        · rw [if_pos (decide_eq_true c)]
          refine ⟨.ref l, rfl, .ref l, rfl, .inl ⟨rfl, _, SqL.of hl2⟩, .str (tx (pw s one n)), rfl, l, txs (pws s one n), _, _, _, rfl, rfl, SqL.of hl2, rfl, txs_flat _, txs_at c, by rw [eqV_tx]; exact decide_eq_true rfl, fun i z hi e => txs_before i z hi e, ?_⟩
          refine ⟨by show 2 ≤ sizeLine; decide, fun t nt => ?_⟩
          have lt : l ≠ t := ne_of_none hl2 nt
          refine q n _ t l ⟨c, no⟩ few (sm.trans (s2.trans (same_upd nt))) ((sm.trans s2).free nt) upd_same ?_
          rw [upd_ne lt]
          exact hl2
        · rw [if_neg (by rw [decide_eq_false c]; exact Bool.false_ne_true)]
          refine ⟨.ref l, rfl, .inl ⟨rfl, _, SqL.of hl2⟩, .str (tx (pw s one n)), rfl, l, _, _, rfl, rfl, hl2, ?_, ?_⟩
          · rw [txs_len, pws_len]
            exact small1000 (by omega)
          · refine ⟨_, rfl, fun i hi => ?_, fun b o e => ?_, ?_⟩
            · rcases Nat.lt_or_ge i n with z | z
              · exact no i z
              · have : i = n := by omega
                rw [this]
                exact c
            · rw [upd_ne (ne_of_none e nl)]
              exact s2 _ _ (sm b o e)
            · rw [upd_same, pws_succ, txs_snoc]
/-! ### power -/
/-- where n falls among the N first ones, the a-th of which comes again -/
def spot (N a n : Nat) : Nat := if n < a then n else a + (n - a) % (N - a)
theorem spot_lt {N a n : Nat} (h : a < N) : spot N a n < N := by
  unfold spot
  split
  · omega
  · have := Nat.mod_lt (n - a) (show 0 < N - a by omega)
    omega
theorem spot_small {N a n : Nat} (h : n < N) : spot N a n = n := by
  unfold spot
  split
  · rfl
  · rw [Nat.mod_eq_of_lt (by omega)]
    omega
theorem sub_mod {n a N : Nat} (h1 : a ≤ n) (h2 : a ≤ N) : ((n : Int) - (a : Int)) % ((N : Int) - (a : Int)) = (((n - a) % (N - a) : Nat) : Int) := by
  rw [← Int.ofNat_sub h1, ← Int.ofNat_sub h2]
  exact (Int.natCast_emod _ _).symm
theorem scPow : FnScope ["signs", "one", "times", "found", "first"] ["signs", "one", "times"] (defScope sPow) := ⟨rfl, rfl, rfl, by decide +kernel, rfl, by decide +kernel, by decide +kernel⟩
def spPow : Sp := fun vs H Q _ => ∃ (s one : List Nat) (n : Nat), vs = [.str (tx s), .str (tx one), .int n] ∧ Signs s ∧ IsMap s one ∧
  ∀ N H', Cyc s one N → Same H H' → Q (.str (tx (pw s one (spot N ((pws s one N).idxOf (pw s one N)) n)))) H'
theorem first_lt {s one : List Nat} {N : Nat} (h : Cyc s one N) : (pws s one N).idxOf (pw s one N) < N := by
  have := List.idxOf_lt_length_of_mem h.1
  rwa [pws_len] at this
theorem ok_pow {f fP : Addr} {fd fdP : FuncData} {k : Nat} (F : Fun K "power" "power" sPow f fd) (FP : Fun K "powers" "powers" sPows fP fdP) (bP : Binds K fdP ["signs", "one"] []) (gP : mg "powers" = some (.ref fP))
    (GP : FnOk P w K mg base CX0 k fP fdP ["signs", "one"] spPows) (ml : mg "len" = none) : FnOk P w K mg base CX0 (k + 1) f fd ["signs", "one", "times"] spPow := by
  refine F.ok scPow (fun vs H Q E h => ?_) (fun cdv A outer s H vs Q E hr h => ?_)
  · obtain ⟨s, one, n, rfl, _⟩ := h
    rfl
  · obtain ⟨s, one, n, rfl, hs, hm, q⟩ := h
    refine ⟨_, pss_cons (ps_asg (pe_call GP hr rfl gP FP.kp bP .nil pass0 (pa_cons (pv 0) (pa_cons (pv 1) pa_nil))) (pg_tup rfl (pgs_cons (pg_name (i := 3) scPow.nd rfl (.inl rfl)) (pgs_cons (pg_name (i := 4) scPow.nd rfl (.inl rfl)) pgs_nil))))
      (pss_cons (ps_if (pt_cmpR op_lt (pv 2) (pv 4) (nomark _)) (pss_one (ps_ret (pe_ix ix_list (pv 3) (pv 2) (fun _ _ => rfl)))) pss_nil)
      (pss_one (ps_ret (pe_ix ix_list (pv 3) (pe_op op_add (pv 4) (pe_op op_mod (pe_op op_sub (pv 2) (pv 4)) (pe_op op_sub (pe_callB call_len_seq (by rfl) ml PySem.boot_len (pa_cons (pv 3) pa_nil)) (pv 4)))) (fun _ _ => rfl))))), ?_⟩
    refine ⟨.str (tx s), rfl, .str (tx one), rfl, s, one, rfl, hs, hm, fun N H1 t l cy few sm ht et el => ?_⟩
    have fl := first_lt cy
    refine ⟨t, _, rfl, SqT.of et, rfl, _, _, rfl, _, _, rfl, rfl, ?_⟩
    refine ⟨.int n, rfl, .int ((pws s one N).idxOf (pw s one N) : Nat), rfl, _, _, rfl, rfl, _, rfl, ?_⟩
    have q' := q N H1 cy sm
    generalize (pws s one N).idxOf (pw s one N) = a at fl q'
    refine ite2 (fun c => ?_) (fun c => ?_)
    · have lt : n < a := by
        have := of_decide_eq_true c
        omega
      refine ⟨.ref l, rfl, .int n, rfl, l, _, _, _, rfl, rfl, SqL.of el, atI_nat (txs_get (pws_get (by omega))), ?_⟩
      unfold spot at q'
      rw [if_pos lt] at q'
      exact q'
    · have ge : ¬ n < a := fun z => c (decide_eq_true (by omega))
      refine ⟨.ref l, rfl, .int a, rfl, .int n, rfl, .int a, rfl, _, _, rfl, rfl, .ref l, rfl, l, _, rfl, .inl (SqL.of el), .int a, rfl, _, _, rfl, rfl, _, _, rfl, rfl, ?_, _, _, rfl, rfl, l, _, _, _, rfl, rfl, SqL.of el, at_of (j := spot N a n) ?_ (txs_get (pws_get (spot_lt fl))), q'⟩
      · rw [txs_len, pws_len]
        omega
      · rw [txs_len, pws_len, sub_mod (by omega) (by omega)]
        unfold spot
        rw [if_neg ge]
        omega
/-! ### map_round -/
theorem scRound : FnScope ["signs", "one", "found", "first"] ["signs", "one"] (defScope sRound) := ⟨rfl, rfl, rfl, by decide +kernel, rfl, by decide +kernel, by decide +kernel⟩
def spRound : Sp := fun vs H Q _ => ∃ s one : List Nat, vs = [.str (tx s), .str (tx one)] ∧ Signs s ∧ IsMap s one ∧
  ∀ N H' t, Cyc s one N → N ≤ 256 → Same H H' → H' t = some (.tup [.int ((pws s one N).idxOf (pw s one N) : Nat), .int (N - (pws s one N).idxOf (pw s one N) : Nat)]) → Q (.ref t) H'
theorem ok_round {f fP : Addr} {fd fdP : FuncData} {k : Nat} (F : Fun K "map_round" "map_round" sRound f fd) (FP : Fun K "powers" "powers" sPows fP fdP) (bP : Binds K fdP ["signs", "one"] []) (gP : mg "powers" = some (.ref fP))
    (GP : FnOk P w K mg base CX0 k fP fdP ["signs", "one"] spPows) (ml : mg "len" = none) : FnOk P w K mg base CX0 (k + 1) f fd ["signs", "one"] spRound := by
  refine F.ok scRound (fun vs H Q E h => ?_) (fun cdv A outer s H vs Q E hr h => ?_)
  · obtain ⟨s, one, rfl, _⟩ := h
    rfl
  · obtain ⟨s, one, rfl, hs, hm, q⟩ := h
    refine ⟨_, pss_cons (ps_asg (pe_call GP hr rfl gP FP.kp bP .nil pass0 (pa_cons (pv 0) (pa_cons (pv 1) pa_nil))) (pg_tup rfl (pgs_cons (pg_name (i := 2) scRound.nd rfl (.inl rfl)) (pgs_cons (pg_name (i := 3) scRound.nd rfl (.inl rfl)) pgs_nil))))
      (pss_one (ps_ret (pe_tup (pa_cons (pv 3) (pa_cons (pe_op op_sub (pe_callB call_len_seq (by rfl) ml PySem.boot_len (pa_cons (pv 2) pa_nil)) (pv 3)) pa_nil))))), ?_⟩
    refine ⟨.str (tx s), rfl, .str (tx one), rfl, s, one, rfl, hs, hm, fun N H1 t l cy few sm ht et el => ?_⟩
    have fl := first_lt cy
    refine ⟨t, _, rfl, SqT.of et, rfl, _, _, rfl, _, _, rfl, rfl, ?_⟩
    refine ⟨.int ((pws s one N).idxOf (pw s one N) : Nat), rfl, .ref l, rfl, l, _, rfl, .inl (SqL.of el), .int ((pws s one N).idxOf (pw s one N) : Nat), rfl, _, _, rfl, rfl, by show 2 ≤ sizeLine; decide, fun p np => ?_⟩
    refine q N _ p cy few (sm.trans (same_upd np)) ?_
    rw [upd_same, txs_len, pws_len, Int.ofNat_sub (Nat.le_of_lt fl)]
/-! ### times_to -/
theorem scTimes : FnScope ["signs", "one", "other", "found", "_"] ["signs", "one", "other"] (defScope sTimes) := ⟨rfl, rfl, rfl, by decide +kernel, rfl, by decide +kernel, by decide +kernel⟩
/-- where a thing is in a list, or None -/
def placeV (L : List (List Nat)) (m : List Nat) : V := if m ∈ L then .int (L.idxOf m : Nat) else .non
def spTimes : Sp := fun vs H Q _ => ∃ s one other : List Nat, vs = [.str (tx s), .str (tx one), .str (tx other)] ∧ Signs s ∧ IsMap s one ∧
  ∀ N H', Cyc s one N → Same H H' → Q (placeV (pws s one N) other) H'
theorem ok_times {f fP : Addr} {fd fdP : FuncData} {k : Nat} (F : Fun K "times_to" "times_to" sTimes f fd) (FP : Fun K "powers" "powers" sPows fP fdP) (bP : Binds K fdP ["signs", "one"] []) (gP : mg "powers" = some (.ref fP))
    (GP : FnOk P w K mg base CX0 k fP fdP ["signs", "one"] spPows) : FnOk P w K mg base CX0 (k + 1) f fd ["signs", "one", "other"] spTimes := by
  refine F.ok scTimes (fun vs H Q E h => ?_) (fun cdv A outer s H vs Q E hr h => ?_)
  · obtain ⟨s, one, other, rfl, _⟩ := h
    rfl
  · obtain ⟨s, one, other, rfl, hs, hm, q⟩ := h
    refine ⟨_, pss_cons (ps_asg (pe_call GP hr rfl gP FP.kp bP .nil pass0 (pa_cons (pv 0) (pa_cons (pv 1) pa_nil))) (pg_tup rfl (pgs_cons (pg_name (i := 3) scTimes.nd rfl (.inl rfl)) (pgs_cons (pg_name (i := 4) scTimes.nd rfl (.inl rfl)) pgs_nil))))
      (pss_cons (ps_if (pt_cmpR op_notIn_seq (pv 2) (pv 3) (by rfl)) (pss_one (ps_ret pe_non)) pss_nil)
      (pss_one (ps_ret (pe_bm PySem.F.plainAttrs_list PySem.F.slot_list_index PySem.F.type_list_index mt_index (pv 3) (pa_cons (pv 2) pa_nil))))), ?_⟩
    refine ⟨.str (tx s), rfl, .str (tx one), rfl, s, one, rfl, hs, hm, fun N H1 t l cy few sm ht et el => ?_⟩
    have q' := q N H1 cy sm
    refine ⟨t, _, rfl, SqT.of et, rfl, _, _, rfl, _, _, rfl, rfl, ?_⟩
    refine ⟨.str (tx other), rfl, .ref l, rfl, l, txs (pws s one N), rfl, .inl (SqL.of el), rfl, txs_flat _, _, rfl, ?_⟩
    show if (!inV (.str (tx other)) (txs (pws s one N))) = true then _ else _
    rw [inV_txs]
    unfold placeV at q'
    by_cases c : other ∈ pws s one N
    · rw [if_neg (by rw [decide_eq_true c]; exact Bool.false_ne_true)]
      rw [if_pos c] at q'
      exact ⟨.ref l, rfl, .inl ⟨rfl, _, SqL.of el⟩, .str (tx other), rfl, l, txs (pws s one N), _, _, _, rfl, rfl, SqL.of el, rfl, txs_flat _, txs_at c, by rw [eqV_tx]; exact decide_eq_true rfl, fun i z hi e => txs_before i z hi e, q'⟩
    · rw [if_pos (by rw [decide_eq_false c]; rfl)]
      rw [if_neg c] at q'
      exact q'
/-! ### is_one_to_one -/
theorem scIsOne : FnScope ["signs", "one"] ["signs", "one"] (defScope sIsOne) := ⟨rfl, rfl, rfl, by decide +kernel, rfl, by decide +kernel, by decide +kernel⟩
def spIsOne : Sp := fun vs H Q _ => ∃ s one : List Nat, vs = [.str (tx s), .str (tx one)] ∧ Signs s ∧ IsMap s one ∧ ∀ H', Same H H' → Q (.bl (decide (∀ c ∈ s, c ∈ one))) H'
theorem signs_ones (l : List Nat) : signsS (tx l) = ones l := by
  unfold signsS ones
  rw [tx_list]
  rfl
theorem ones_texts (l : List Nat) : (ones l).map V.str = (l.map fun c => [c]).map fun m => V.str (tx m) := by
  unfold ones
  rw [List.map_map, List.map_map]
  rfl
theorem low_ones {l : List Nat} (h : Low l) : ∀ m ∈ l.map (fun c => [c]), Low m := by
  intro m hm c hc
  obtain ⟨d, hd, rfl⟩ := List.mem_map.mp hm
  rw [List.mem_singleton.mp hc]
  exact h d hd
theorem ok_isOne {f : Addr} {fd : FuncData} {k : Nat} (F : Fun K "is_one_to_one" "is_one_to_one" sIsOne f fd) (ms : mg "sorted" = none) (ml : mg "list" = none) : FnOk P w K mg base CX0 (k + 1) f fd ["signs", "one"] spIsOne := by
  refine F.ok scIsOne (fun vs H Q E h => ?_) (fun cdv A outer s H vs Q E hr h => ?_)
  · obtain ⟨s, one, rfl, _⟩ := h
    rfl
  · obtain ⟨s, one, rfl, hs, hm, q⟩ := h
    have hu : A.units + 3 + 64 < cLine := hr.units
    refine ⟨_, pss_one (ps_ret (pe_cmpR (op_eqD hu) (pe_callB (call_sorted_text rfl) (by rfl) ms (by decide +kernel) (pa_cons (pv 1) pa_nil)) (pe_callTy (call_list_text rfl) (by rfl) ml (by decide +kernel) (pa_cons (pv 0) pa_nil)) (nomark _))), ?_⟩
    have lo : one.length < 64 := by
      have := hs.hi
      have := hm.1
      omega
    refine ⟨.str (tx one), rfl, tx one, rfl, by rw [tx_len]; exact lo, fun ys l perm srt nl => ?_⟩
    rw [signs_ones] at perm
    refine ⟨.str (tx s), rfl, tx s, rfl, by rw [tx_len]; exact Nat.le_of_lt (small1000 (by have := hs.hi; omega)), fun l2 nl2 => ?_⟩
    rw [signs_ones]
    obtain ⟨zs, rfl, pz⟩ := perm_ones perm
    have ne : l ≠ l2 := fun e => by
      rw [← e, upd_same] at nl2
      cases nl2
    have e1 : (upd (upd H l (.lst ((ones zs).map V.str))) l2 (.lst ((ones s).map V.str))) l = some (.lst ((zs.map fun c => [c]).map fun m => V.str (tx m))) := by
      rw [upd_ne ne, upd_same, ones_texts]
    have e2 : (upd (upd H l (.lst ((ones zs).map V.str))) l2 (.lst ((ones s).map V.str))) l2 = some (.lst ((s.map fun c => [c]).map fun m => V.str (tx m))) := by
      rw [upd_same, ones_texts]
    have lowS : Low s := hs.small
    have lowZ : Low zs := fun c hc => lowS c (hm.2 c (pz.mem_iff.mp hc))
    refine ⟨_, _, dp_texts (SqL.of e1), dp_texts (SqL.of e2), shaped_texts (low_ones lowZ), shaped_texts (low_ones lowS), ?_⟩
    have same : Same H (upd (upd H l (.lst ((ones zs).map V.str))) l2 (.lst ((ones s).map V.str))) := (same_upd nl).trans (same_upd nl2)
    have val : PyData.eqv (.list ((zs.map fun c => [c]).map fun m => PyData.str (tx m))) (.list ((s.map fun c => [c]).map fun m => PyData.str (tx m))) = decide (∀ c ∈ s, c ∈ one) := by
      rw [PyData.eqv, eqv_texts]
      have iff : (zs.map fun c => [c]) = (s.map fun c => [c]) ↔ ∀ c ∈ s, c ∈ one := by
        have z := sorted_is hs hm perm srt
        constructor
        · intro e
          refine z.mp ?_
          have e2 := congrArg (List.map tx) e
          rw [List.map_map, List.map_map] at e2
          exact e2
        · intro h
          have e := z.mpr h
          rw [ones_inj e]
      exact decide_eq_decide.mpr iff
    rw [val]
    exact q _ same
/-! ### sources -/
theorem scSrc : FnScope ["signs", "one", "sign", "elder", "heir"] ["signs", "one", "sign"] (defScope sSrc) := ⟨rfl, rfl, rfl, by decide +kernel, rfl, by decide +kernel, by decide +kernel⟩
/-- the signs that become c, of the first i ones -/
def srcs (s one : List Nat) (c : Nat) (i : Nat) : List Nat := (((s.zip one).take i).filter fun p => decide (p.2 = c)).map (·.1)
theorem srcs_succ {s one : List Nat} {c i a b : Nat} (ha : s[i]? = some a) (hb : one[i]? = some b) : srcs s one c (i + 1) = if b = c then srcs s one c i ++ [a] else srcs s one c i := by
  have hz : (s.zip one)[i]? = some (a, b) := List.getElem?_zip_eq_some.mpr ⟨ha, hb⟩
  unfold srcs
  rw [List.take_add_one, hz, List.filter_append]
  by_cases h : b = c
  · rw [if_pos h, List.map_append]
    subst h
    simp
  · rw [if_neg h]
    simp [h]
theorem srcs_few (s one : List Nat) (c i : Nat) : (srcs s one c i).length ≤ s.length := by
  unfold srcs
  rw [List.length_map]
  refine Nat.le_trans (List.length_filter_le _ _) ?_
  rw [List.length_take, List.length_zip]
  omega
def spSrc : Sp := fun vs H Q _ => ∃ (s one : List Nat) (c : Nat), vs = [.str (tx s), .str (tx one), .str (tx [c])] ∧ s.length ≤ 1000 ∧ one.length = s.length ∧ ∀ H', Same H H' → Q (.str (tx (srcs s one c s.length))) H'
theorem ok_src {f : Addr} {fd : FuncData} {k : Nat} (F : Fun K "sources" "sources" sSrc f fd) (mz : mg "zip" = none) : FnOk P w K mg base CX0 (k + 1) f fd ["signs", "one", "sign"] spSrc := by
  refine F.ok scSrc (fun vs H Q E h => ?_) (fun cdv A outer s H vs Q E hr h => ?_)
  · obtain ⟨s, one, c, rfl, _⟩ := h
    rfl
  · obtain ⟨s, one, c, rfl, hs, ho, q⟩ := h
    refine ⟨_, pss_one (ps_ret (pe_join pe_str (pe_lc (own := [("elder", 3), ("heir", 4)]) (g := gTup K 2 (gCons (gName 3) (gCons (gName 4) gNil))) rfl scSrc.nd (pi_zipS (by rfl) mz (pa_cons (pv 0) (pa_cons (pv 1) pa_nil))) (blkOk_by (own := [("elder", 3), ("heir", 4)]) (N := ["signs", "one", "sign", "elder", "heir"]) (sc := defScope sSrc) (by decide +kernel))
      (fun _ _ _ _ _ => pg_tup rfl (pgs_cons (pg_name (i := 3) scSrc.nd rfl (Or.inl rfl)) (pgs_cons (pg_name (i := 4) scSrc.nd rfl (Or.inl rfl)) pgs_nil))) (fun _ _ _ _ _ => pts_one (pt_cmpR op_eq (pv 4) (pv 2) (nomark _))) (fun _ _ _ _ _ => pv 3)))), ?_⟩
    have zs : (tx s).cps.size = (tx one).cps.size := (tx_len s).trans (ho.symm.trans (tx_len one).symm)
    refine ⟨⟨_, rfl⟩, .str (tx s), rfl, .str (tx one), rfl, tx s, tx one, rfl, fun D nD => ?_⟩
    refine lc_tx (H := H) (walk_zipS zs) (fun _ _ => trivial) (fun i => srcs s one c i) rfl (fun i _ => Nat.le_trans (srcs_few s one c i) hs) nD ?_ ?_
    · rintro i x H1 H2 Qy Qn hi sm ⟨T, a, b, rfl, nT, rfl, ha, hb⟩ qy qn
      have ha' : s[i]? = some a := by rw [← tx_list s, Array.getElem?_toList]; exact ha
      have hb' : one[i]? = some b := by rw [← tx_list one, Array.getElem?_toList]; exact hb
      have step := srcs_succ (c := c) ha' hb'
      refine ⟨T, _, rfl, SqT.of upd_same, rfl, _, _, rfl, _, _, rfl, rfl, rfl, .str (tx [b]), rfl, .str (tx [c]), rfl, rfl, _, rfl, ?_⟩
      by_cases h : b = c
      · refine yesOf (by rw [h]; exact decide_eq_true rfl) ?_
        rw [if_pos h] at step
        exact ⟨.str (tx [a]), rfl, qy a _ (same_upd nT) step⟩
      · have ne : ¬ V.str (tx [b]) = V.str (tx [c]) := fun e => h (List.singleton_inj.mp (tx_inj (V.str.inj e)))
        refine noOf (decide_eq_false ne) ?_
        rw [if_neg h] at step
        exact qn _ (same_upd nT) step
    · intro H1 sm hD
      have few := srcs_few s one c (tx s).cps.size
      have len : (tx s).cps.size = s.length := tx_len s
      refine ⟨tx [], D, ones (srcs s one c (tx s).cps.size), tx_nil ▸ rfl, rfl, .inl (SqL.of hD), ?_, ?_⟩
      · rw [ones_sum, ones_len, tx_len]
        simp
        omega
      · show Q _ H1
        rw [ones_join, len]
        exact q H1 sm
end
end K33
set_option Elab.async false
set_option linter.all false
set_option maxRecDepth 100000
set_option maxHeartbeats 1000000
/-! NotOne, and the map that turns one back. -/
namespace K33
open PySem PySem.Spec PyProof.Rows L2 Bp
abbrev sInit : Stmt := inClass (topS 1) 0
abbrev leTail : List Value := [.type "LookupError", .type "Exception", .type "BaseException", .type "object"]
abbrev OexL (K : PySem.W.Frag) (C : Addr) : Prop := Oex K C "LookupError.__new__" leTail
/-- what the top says of NotOne: its class at C, its __init__ at fI -/
structure NotOneTxt (K : PySem.W.Frag) (mg : Str → Option Value) (C fI : Addr) : Prop where
  ox : OexL K C
  xf : XfC K C
  gC : mg "NotOne" = some (.ref C)
  noF : PySem.W.findIn K (.ref C) "sign" = some none
  iC : PySem.W.findIn K (.ref C) "__init__" = some (some (.ref fI))
  tI : PySem.W.typeIn K (.ref fI) = some (.type "function")
  up : PySem.W.subIn K (.ref C) (.type "LookupError") = some true
  te : PySem.W.exmOne K (.ref C) (.ref C) = some true
section
variable {P : Program} {w : World} {K : PySem.W.Frag} {mg : Str → Option Value} {base : Heap} {C fI : Addr}
theorem scInit : FnScope ["self", "sign"] ["self", "sign"] (defScope sInit) := ⟨rfl, rfl, rfl, by decide +kernel, rfl, by decide +kernel, by decide +kernel⟩
def spInit (C : Addr) : Sp := fun vs H Q _ => ∃ (a : Addr) (v : V), vs = [.ref a, v] ∧ H a = some (exo a C none) ∧ ∀ dx, H dx = none → dx ≠ a → Q .non (upd (upd H dx (exd dx [("sign", v)])) a (exo a C (some dx)))
theorem ok_init {fd : FuncData} {k : Nat} (F : Fun K "__init__" "NotOne.__init__" sInit fI fd) (T : NotOneTxt K mg C fI) : FnOk P w K mg base CX0 (k + 1) fI fd ["self", "sign"] (spInit C) := by
  refine F.ok scInit (fun vs H Q E h => ?_) (fun cdv A outer s H vs Q E hr h => ?_)
  · obtain ⟨a, v, rfl, _⟩ := h
    rfl
  · obtain ⟨a, v, rfl, ha, q⟩ := h
    refine ⟨_, pss_one (ps_keep (newId := "LookupError.__new__") PySem.F.store_LookupError (pv 0) (pv 1)), ?_⟩
    exact ⟨v, rfl, .ref a, rfl, a, C, rfl, T.ox, T.noF, ha, fun dx n ne => q dx n ne⟩
/-! ### turned_map -/
theorem scTurn : FnScope ["signs", "one", "sign"] ["signs", "one"] (defScope sTurn) := ⟨rfl, rfl, rfl, by decide +kernel, rfl, by decide +kernel, by decide +kernel⟩
/-- the map that turns m back -/
def back (s m : List Nat) : List Nat := s.map fun c => s.getD (m.idxOf c) 0
def spTurn (C : Addr) : Sp := fun vs H Q E => ∃ s m : List Nat, vs = [.str (tx s), .str (tx m)] ∧ Signs s ∧ IsMap s m ∧
  ((∀ c ∈ s, c ∈ m) → ∀ H', Same H H' → Q (.str (tx (back s m))) H') ∧
  (∀ (i c : Nat), s[i]? = some c → c ∉ m → (∀ (j e : Nat), j < i → s[j]? = some e → e ∈ m) → ∀ d H', Same H H' → H' d = some (.xd [("sign", .str (tx [c]))]) → E (.ref C) (some d) H')
theorem ok_turn {f : Addr} {fd fdI : FuncData} {k : Nat} (F : Fun K "turned_map" "turned_map" sTurn f fd) (T : NotOneTxt K mg C fI) (FI : Fun K "__init__" "NotOne.__init__" sInit fI fdI) (bI : Binds K fdI ["self", "sign"] []) :
    FnOk P w K mg base (L2.CX P w) (k + 3) f fd ["signs", "one"] (spTurn C) := by
  have GI : FnOk P w K mg base CX0 1 fI fdI ["self", "sign"] (spInit C) := ok_init FI T
  refine F.okX scTurn (fun vs H Q E h => ?_) (fun cdv A outer s H vs Q E hr h => ?_)
  · obtain ⟨s, m, rfl, _⟩ := h
    rfl
  · obtain ⟨s, m, rfl, hs, hm, qb, qe⟩ := h
    refine ⟨_, pss_cons (ps_for (passes_of rfl) rfl (pi_str (pv 0)) (pg_name (i := 2) scTurn.nd rfl (Or.inl rfl))
        (pss_one (ps_if (pt_cmpR op_notIn_sign (pv 2) (pv 1) (by rfl)) (pss_one (ps_raise rfl (takes_of rfl rfl rfl rfl) (pmk_keep PySem.F.excBase_LookupError T.ox T.iC T.tI GI (hr.mono (by omega)) bI .nil pass0 (by rfl) T.gC (pa_cons (pv 2) pa_nil)))) pss_nil)))
      (pss_one (ps_ret (pe_join pe_str (pe_lc (own := [("sign", 2)]) (g := gName 2) (tt := tYes) rfl scTurn.nd (pi_str (pv 0)) (blkOk_by (own := [("sign", 2)]) (N := ["signs", "one", "sign"]) (sc := defScope sTurn) (by decide +kernel))
        (fun _ _ _ _ _ => pg_name (i := 2) scTurn.nd rfl (Or.inl rfl)) (fun _ _ _ _ _ => pts_nil) (fun _ _ _ _ _ => pe_ix ix_str (pv 0) (pe_m1 PySem.F.slot_str_index PySem.F.type_str_index mt_sindex (pv 1) (pv 2)) (fun _ _ => rfl)))))), ?_⟩
    have len : (tx s).cps.size = s.length := tx_len s
    refine ⟨.str (tx s), rfl, tx s, rfl, for_it (walk_str (z := tx s)) (fun i σ H' => ∃ v, σ = [some (.str (tx s)), some (.str (tx m)), v] ∧ Same H H' ∧ ∀ (j e : Nat), j < i → s[j]? = some e → e ∈ m) ⟨none, rfl, Same.refl H, fun j e hj => absurd hj (Nat.not_lt_zero _)⟩ (fun _ _ _ _ _ => trivial) ?_ ?_⟩
    · rintro i x σ H1 H2 hi ⟨v, rfl, sm, before⟩ ⟨rfl, c, hc, rfl⟩
      have hc' : s[i]? = some c := by rw [← tx_list s, Array.getElem?_toList]; exact hc
      refine ⟨.str (tx [c]), rfl, .str (tx m), rfl, c, tx m, rfl, rfl, _, rfl, ?_⟩
      rw [tx_list]
      by_cases h : c ∈ m
      · refine noOf (by rw [decide_eq_true h]; rfl) ?_
        refine ⟨_, rfl, sm, fun j e hj he => ?_⟩
        rcases Nat.lt_or_ge j i with z | z
        · exact before j e z he
        · have : j = i := by omega
          rw [this, hc'] at he
          cases he
          exact h
      · refine yesOf (by rw [decide_eq_false h]; rfl) ?_
        refine ⟨.str (tx [c]), rfl, by show 1 ≤ 1000; decide, fun a na => ?_⟩
        refine ⟨a, .str (tx [c]), rfl, upd_same, fun dx nd ne => ⟨rfl, dx, [("sign", .str (tx [c]))], upd_same, ?_, ?_, ?_⟩⟩
        · rw [upd_ne ne, upd_same]
        · rw [upd_ne ne] at nd
          exact nd
        · rw [upd_ne ne] at nd
          refine qe i c hc' h before dx _ (fun b o e => ?_) upd_same
          have e1 := sm b o e
          have n1 : b ≠ a := ne_of_none e1 na
          have n2 : b ≠ dx := ne_of_none e1 nd
          rw [upd_ne n2, del_ne n1, upd_ne n1, upd_ne n2, upd_ne n1]
          exact e1
    · rintro σ H1 ⟨v, rfl, sm, before⟩
      have all : ∀ c ∈ s, c ∈ m := fun c hc => by
        obtain ⟨j, hj⟩ := List.mem_iff_getElem?.mp hc
        exact before j c (by rw [len]; exact (List.getElem?_eq_some_iff.mp hj).1) hj
      refine ⟨⟨_, rfl⟩, .str (tx s), rfl, tx s, rfl, fun D nD => ?_⟩
      refine lc_tx (H := H1) (walk_str (z := tx s)) (fun _ _ => trivial) (fun i => back s m |>.take i) rfl (fun i _ => ?_) nD ?_ ?_
      · have := hs.hi
        unfold back
        rw [List.length_take, List.length_map]
        omega
      · rintro i x H2 H3 Qy Qn hi sm2 ⟨rfl, c, hc, rfl⟩ qy _
        have hc' : s[i]? = some c := by rw [← tx_list s, Array.getElem?_toList]; exact hc
        have inM : c ∈ m := all c (List.mem_of_getElem? hc')
        have lt : m.idxOf c < s.length := by rw [← hm.1]; exact List.idxOf_lt_length_of_mem inM
        refine ⟨rfl, yes_kept ?_⟩
        refine ⟨.str (tx s), rfl, .str (tx m), rfl, ⟨_, rfl⟩, .str (tx [c]), rfl, tx m, tx [c], m.idxOf c, [], rfl, rfl, occ_first inM, tx s, _, s[m.idxOf c], rfl, rfl, ?_, ?_, qy _ _ (Same.refl _) ?_⟩
        · rw [tx_len]
          exact Nat.le_of_lt (small1000 (by have := hs.hi; omega))
        · rw [tx_list]
          exact atI_nat (List.getElem?_eq_getElem lt)
        · have hb : (back s m)[i]? = some s[m.idxOf c] := by
            unfold back
            rw [List.getElem?_map, hc']
            show some (s.getD (m.idxOf c) 0) = _
            rw [List.getD_eq_getElem?_getD, List.getElem?_eq_getElem lt]
            rfl
          rw [List.take_add_one, hb]
          rfl
      · intro H2 sm2 hD
        have bl : (back s m).length = s.length := List.length_map _
        have full : (back s m).take (tx s).cps.size = back s m := List.take_of_length_le (by rw [len, bl]; exact Nat.le_refl _)
        rw [full] at hD
        have := hs.hi
        refine ⟨tx [], D, ones (back s m), tx_nil ▸ rfl, rfl, .inl (SqL.of hD), ?_, ?_⟩
        · rw [ones_sum, ones_len, tx_len, bl]
          simp
          omega
        · show Q _ H2
          rw [ones_join]
          exact qb all H2 (sm.trans sm2)
end
end K33
set_option Elab.async false
set_option linter.all false
set_option maxRecDepth 100000
set_option maxHeartbeats 1000000
/-! The law's own hand: what it draws. -/
namespace K33
open PySem PySem.Spec PyProof.Rows L2 Bp
abbrev sFeed : Stmt := topS 12
abbrev sDraw : Stmt := topS 13
abbrev sPick : Stmt := topS 14
abbrev sSigns : Stmt := topS 15
abbrev sMixed : Stmt := topS 16
abbrev sAny : Stmt := topS 17
section
variable {P : Program} {w : World} {K : PySem.W.Frag} {mg : Str → Option Value} {base : Heap}
/-! ### the feed -/
theorem scFeed : FnScope ["_law_script", "_law_cell"] ["_law_script"] (defScope sFeed) := ⟨rfl, rfl, rfl, by decide +kernel, rfl, by decide +kernel, by decide +kernel⟩
def spFeed (K : PySem.W.Frag) : Sp := fun vs H Q _ => ∃ (a : Addr) (ns : List Int), vs = [.ref a] ∧ SqL K H a (ns.map V.int) ∧ ns.length ≤ 1000 ∧ ∀ H' (g : Fed), H g.f = none → FeedAt K H' g 0 → Same H H' → Q (.ref g.f) H'
theorem ok_feed {f : Addr} {fd : FuncData} {k : Nat} (F : Fun K "_law_feed" "_law_feed" sFeed f fd) : FnOk P w K mg base CX0 (k + 1) f fd ["_law_script"] (spFeed K) := by
  refine F.ok scFeed (fun vs H Q E h => ?_) (fun cdv A outer s H vs Q E hr h => ?_)
  · obtain ⟨a, ns, rfl, _⟩ := h
    rfl
  · obtain ⟨a, ns, rfl, hS, few, q⟩ := h
    refine ⟨_, pss_one (ps_ret (pe_disp (pps_cons pe_str (pe_lc (own := [("_law_cell", 1)]) (g := gName 1) (tt := tYes) rfl scFeed.nd (pi_list (pe_slice sl_list (pv 0) po_none (po_some pe_int))) (blkOk_by (own := [("_law_cell", 1)]) (N := ["_law_script", "_law_cell"]) (sc := defScope sFeed) (by decide +kernel))
        (fun _ _ _ _ _ => pg_name (i := 1) scFeed.nd rfl (Or.inl rfl)) (fun _ _ _ _ _ => pts_nil) (fun _ _ _ _ _ => pv 1))
      (pps_cons pe_str pe_int (pps_cons pe_str pe_int pps_nil))) (by rfl) (by rfl) (fun z => by cases z) (by decide))), ?_⟩
    intro f nf
    have s1 : Same H (upd H f (.dK [])) := same_upd nf
    obtain ⟨ms, em, short⟩ : ∃ ms : List Int, cutV (ns.map V.int) none (some 63) = ms.map V.int ∧ ms.length ≤ 1000 := by
      refine ⟨(ns.drop (HT.sIx (ns.map V.int).length 0 none)).take (HT.sIx (ns.map V.int).length (ns.map V.int).length (some 63) - HT.sIx (ns.map V.int).length 0 none), ?_, ?_⟩
      · unfold cutV
        rw [List.map_take, List.map_drop]
      · rw [List.length_take, List.length_drop]
        omega
    refine ⟨.ref a, rfl, 63, rfl, a, ns.map V.int, rfl, s1.seq hS, fun c nc => ?_⟩
    rw [em]
    have s2 : Same (upd H f (.dK [])) (upd (upd H f (.dK [])) c (.lst (ms.map V.int))) := same_upd nc
    refine ⟨c, rfl, ⟨_, SqL.of upd_same⟩, fun D nD => ?_⟩
    refine lc_list (xs := ms.map V.int) (fun i H' => Same (upd (upd H f (.dK [])) c (.lst (ms.map V.int))) H' ∧ H' D = some (.lst ((ms.take i).map V.int))) ⟨same_upd nD, upd_same⟩ (fun i H' _ z => SqL.of (z.1 _ _ upd_same)) ?_ ?_
    · rintro i x H1 hx ⟨sm, hD⟩
      obtain ⟨z, hz, rfl⟩ : ∃ z, ms[i]? = some z ∧ x = V.int z := by
        rw [List.getElem?_map] at hx
        cases e : ms[i]? with
        | none =>
          rw [e] at hx
          cases hx
        | some z =>
          rw [e] at hx
          exact ⟨z, rfl, (Option.some.inj hx).symm⟩
      refine ⟨rfl, yes_kept ?_⟩
      refine ⟨.int z, rfl, _, hD, ?_, ?_, ?_⟩
      · rw [List.length_map, List.length_take]
        exact small1000 (by omega)
      · exact fun b o e => by
          rw [upd_ne (ne_of_none e nD)]
          exact sm b o e
      · rw [upd_same, List.take_add_one, hz, List.map_append]
        rfl
    · rintro H1 ⟨sm, hD⟩
      rw [List.length_map, List.take_length] at hD
      have hf : H1 f = some (.dK []) := sm _ _ (s2 _ _ upd_same)
      refine ⟨hf, feedKvs D 0 0, rfl, (by show 3 ≤ 15; decide), ?_⟩
      rw [feed_made]
      refine q _ ⟨f, D, ms⟩ nf ⟨0, 0, upd_same, ?_, Int.le_refl _, Int.le_refl _, Int.le_refl _⟩ ?_
      · have ne : D ≠ f := ne_of hD hf (by intro z; cases z)
        exact SqL.of (by rw [upd_ne ne]; exact hD)
      · exact fun b o e => by
          rw [upd_ne (ne_of_none e nf)]
          exact sm _ _ (s2 _ _ (s1 _ _ e))
/-! ### a draw -/
theorem scDraw : FnScope ["_law_feed_here", "_law_many", "_law_digit", "_law_at", "_law_cell", "_law_mixed_here"] ["_law_feed_here", "_law_many"] (defScope sDraw) := ⟨rfl, rfl, rfl, by decide +kernel, rfl, by decide +kernel, by decide +kernel⟩
def spDraw (K : PySem.W.Frag) : Sp := fun vs H Q _ => ∃ (f : Fed) (m : Int) (n : Nat), vs = [.ref f.f, .int m] ∧ FeedAt K H f n ∧ n ≤ 2 ^ 40 ∧ 0 < m ∧ m.natAbs < 2 ^ 300 ∧ ∀ d H', 0 ≤ d → d < m → FeedAt K H' f (n + 1) → Kept f.f H H' → Q (.int d) H'
theorem abs_nn {z : Int} : 0 ≤ (if z < 0 then -z else z) := by
  split <;> omega
theorem mid {z : Int} (h0 : 0 ≤ z) (h : z ≤ 2 ^ 63) : CMul z z := .inl ⟨by omega, by omega⟩
theorem ok_draw {f : Addr} {fd : FuncData} {k : Nat} (F : Fun K "_law_draw" "_law_draw" sDraw f fd) (ml : mg "len" = none) (ma : mg "abs" = none) : FnOk P w K mg base CX0 (k + 1) f fd ["_law_feed_here", "_law_many"] (spDraw K) := by
  refine F.ok scDraw (fun vs H Q E h => ?_) (fun cdv A outer s H vs Q E hr h => ?_)
  · obtain ⟨a, m, n, rfl, _⟩ := h
    rfl
  · obtain ⟨⟨a, c, ns⟩, m, n, rfl, fe, hn, m0, mb, q⟩ := h
    have hu := hu_of hr
    have hu64 : A.units + 3 + 64 < cLine := hr.units
    obtain ⟨at_, left, ef, sc, a0, an, l0⟩ := fe
    have small : ∀ z : Int, CDivW z m := fun z => wide_div m0 mb (by decide) (by decide)
    have at40 : at_ ≤ 2 ^ 40 := by omega
    have q2 : ∀ (z l : Int) (H' : Hp), 0 ≤ l → Kept a H H' → H' a = some (.dK (feedKvs c (at_ + 1) l)) → Q (.int (z % m)) H' := fun z l H' h0 kp e =>
      q _ _ (Int.emod_nonneg _ (by omega)) (Int.emod_lt_of_pos _ m0) ⟨at_ + 1, l, e, kp.seq ef sc, by omega, (by show at_ + 1 ≤ ((n + 1 : Nat) : Int); omega), h0⟩ kp
    -- what is done with the cell
    obtain ⟨tt, ht, pt⟩ : ∃ t, PSs (cxOf CX0 P w K mg base ["_law_feed_here", "_law_many", "_law_digit", "_law_at", "_law_cell", "_law_mixed_here"] "_law_draw" (defScope sDraw) f cdv A outer s H E).nox ((defBody sDraw).drop 5) t ∧
        ∀ (cell : Int) (H1 : Hp), Kept a H H1 → H1 a = some (.dK (feedKvs c (at_ + 1) left)) → t { nx := fun _ H' => Q .non H', rt := Q } [some (.ref a), some (.int m), none, some (.int at_), some (.int cell), none] H1 := by
      refine ⟨_, pss_cons (ps_if (PW.pt (pw_and (pt_cmpR op_lt (pv 3) (pe_callB call_len_seq (by rfl) ml PySem.boot_len (pa_cons (pe_dget hu (pv 0) pe_str (fun _ _ => rfl)) pa_nil)) (nomark _))
            (pw_and1 (pt_cmpR op_ge (pe_callB call_abs (by rfl) ma (by decide +kernel) (pa_cons (pv 4) pa_nil)) (pe_op op_pow pe_int pe_int) (nomark _)))))
        (pss_cons (ps_dput hu (pv 0) pe_str (pe_op op_fdivW (pe_op op_sub (pe_callB call_abs (by rfl) ma (by decide +kernel) (pa_cons (pv 4) pa_nil)) (pe_op op_pow pe_int pe_int)) (pv 1)) rfl)
        (pss_one (ps_ret (pe_op op_mod (pe_op op_sub (pe_callB call_abs (by rfl) ma (by decide +kernel) (pa_cons (pv 4) pa_nil)) (pe_op op_pow pe_int pe_int)) (pv 1))))) pss_nil)
      (pss_cons (ps_set (i := 5) scDraw.nd rfl (.inl rfl) (pe_op op_mod (pe_op op_add (pe_op op_mul (pv 4) pe_int) (pe_op op_mul pe_int (pe_op op_add (pv 3) pe_int))) pe_int))
      (pss_cons (ps_set (i := 5) scDraw.nd rfl (.inl rfl) (pe_op op_mod (pe_op op_mul (pv 5) (pe_op op_add (pv 5) pe_int)) pe_int))
      (pss_one (ps_ret (pe_op op_mod (pe_op op_fdivW (pv 5) pe_int) (pv 1)))))), ?_⟩
      intro cell H1 kp e1
      have s1 : SqL K H1 c (ns.map V.int) := kp.seq ef sc
      have cp : CPow 10 18 := ⟨by decide, by decide, by decide⟩
      have last : ∀ (z : Int) (H' : Hp), Kept a H H' → H' a = some (.dK (feedKvs c (at_ + 1) left)) → Q (.int (z % m)) H' := fun z H' kp e => q2 z left H' l0 kp e
      have big : (0 : Int) < 18446744073709551557 := by decide
      have m1 : ∀ z : Int, CMul z 6364136223846793005 := fun z => .inr ⟨by decide, by decide⟩
      have m2 : ∀ z : Int, CMul 1442695040888963407 z := fun z => .inl ⟨by decide, by decide⟩
      have m3 : ∀ z y : Int, CMul (z % 18446744073709551557) y := fun z y => .inl ⟨by omega, by omega⟩
      have d1 : ∀ z : Int, CDivW z 4294967311 := fun z => wide_div (by decide) (b := 40) (by decide) (by decide) (by decide)
      refine ⟨.int at_, rfl, .ref a, rfl, a, _, rfl, get_cells e1, c, _, rfl, .inl s1, _, _, rfl, rfl, _, rfl, ?_⟩
      refine ite2 (fun c1 => ?_) (fun c1 => ?_)
      · refine ⟨.int cell, rfl, cell, rfl, 10, 18, rfl, rfl, cp, _, _, rfl, rfl, _, rfl, ?_⟩
        refine ite2 (fun c2 => ?_) (fun c2 => ?_)
        · refine ⟨.int cell, rfl, cell, rfl, 10, 18, rfl, rfl, cp, _, _, rfl, rfl, .int m, rfl, _, _, rfl, rfl, small _, .ref a, rfl, a, _, rfl, put_left e1, ?_⟩
          refine ⟨.int cell, rfl, cell, rfl, 10, 18, rfl, rfl, cp, _, _, rfl, rfl, .int m, rfl, _, _, rfl, rfl, m0, ?_⟩
          refine q2 _ _ _ (Int.ediv_nonneg ?_ (by omega)) (kp.trans (Kept.put _)) upd_same
          have := of_decide_eq_true c2
          omega
        · refine ⟨.int cell, rfl, _, _, rfl, rfl, m1 _, .int at_, rfl, _, _, rfl, rfl, _, _, rfl, rfl, m2 _, _, _, rfl, rfl, _, _, rfl, rfl, big, ?_⟩
          refine ⟨_, rfl, _, rfl, _, _, rfl, rfl, _, _, rfl, rfl, m3 _ _, _, _, rfl, rfl, big, ?_⟩
          exact ⟨_, rfl, _, _, rfl, rfl, d1 _, .int m, rfl, _, _, rfl, rfl, m0, last _ H1 kp e1⟩
      · refine ⟨.int cell, rfl, _, _, rfl, rfl, m1 _, .int at_, rfl, _, _, rfl, rfl, _, _, rfl, rfl, m2 _, _, _, rfl, rfl, _, _, rfl, rfl, big, ?_⟩
        refine ⟨_, rfl, _, rfl, _, _, rfl, rfl, _, _, rfl, rfl, m3 _ _, _, _, rfl, rfl, big, ?_⟩
        exact ⟨_, rfl, _, _, rfl, rfl, d1 _, .int m, rfl, _, _, rfl, rfl, m0, last _ H1 kp e1⟩
    refine ⟨_, pss_cons (ps_if (pt_cmpR op_gt (pe_dget hu (pv 0) pe_str (fun _ _ => rfl)) pe_int (nomark _))
        (pss_cons (ps_set (i := 2) scDraw.nd rfl (.inl rfl) (pe_op op_mod (pe_dget hu (pv 0) pe_str (fun _ _ => rfl)) (pv 1)))
        (pss_cons (ps_dput hu (pv 0) pe_str (pe_op op_fdivW (pe_dget hu (pv 0) pe_str (fun _ _ => rfl)) (pv 1)) rfl)
        (pss_one (ps_ret (pv 2))))) pss_nil)
      (pss_cons (ps_set (i := 3) scDraw.nd rfl (.inl rfl) (pe_dget hu (pv 0) pe_str (fun _ _ => rfl)))
      (pss_cons (ps_dput hu (pv 0) pe_str (pe_op op_add (pv 3) pe_int) rfl)
      (pss_cons (ps_set (i := 4) scDraw.nd rfl (.inl rfl) (pe_op op_add (pe_op op_add (pe_op op_mul (pe_op op_mul pe_int (pv 3)) (pv 3)) (pe_op op_mul pe_int (pv 3))) pe_int))
      (pss_cons (ps_if (pt_cmpR (op_neD hu64) (pe_dget hu (pv 0) pe_str (fun _ _ => rfl)) (pe_lst pa_nil) (nomark _))
        (pss_one (ps_set (i := 4) scDraw.nd rfl (.inl rfl) (pe_op op_add (pv 4) (pe_ix ix_list (pe_dget hu (pv 0) pe_str (fun _ _ => rfl)) (pe_op op_mod (pv 3) (pe_callB call_len_seq (by rfl) ml PySem.boot_len (pa_cons (pe_dget hu (pv 0) pe_str (fun _ _ => rfl)) pa_nil))) (fun _ _ => rfl))))) pss_nil) ht)))), ?_⟩
    refine ⟨.ref a, rfl, a, _, rfl, get_left ef, _, _, rfl, rfl, _, rfl, ?_⟩
    refine ite2 (fun c0 => ?_) (fun c0 => ?_)
    · refine ⟨.ref a, rfl, a, _, rfl, get_left ef, .int m, rfl, left, m, rfl, rfl, m0, ?_⟩
      refine ⟨.ref a, rfl, a, _, rfl, get_left ef, .int m, rfl, left, m, rfl, rfl, small _, .ref a, rfl, a, _, rfl, put_left ef, ?_⟩
      refine ⟨.int (left % m), rfl, ?_⟩
      exact q _ _ (Int.emod_nonneg _ (by omega)) (Int.emod_lt_of_pos _ m0) ⟨at_, left / m, upd_same, (Kept.put _).seq ef sc, a0, (by show at_ ≤ ((n + 1 : Nat) : Int); omega), Int.ediv_nonneg l0 (Int.le_of_lt m0)⟩ (Kept.put _)
    · refine ⟨.ref a, rfl, a, _, rfl, get_at ef, .int at_, rfl, at_, 1, rfl, rfl, .ref a, rfl, a, _, rfl, put_at ef, ?_⟩
      have cm : ∀ z : Int, CMul z at_ := fun z => .inr ⟨by omega, by omega⟩
      refine ⟨.int at_, rfl, 53, at_, rfl, rfl, cm _, .int at_, rfl, _, at_, rfl, rfl, cm _, .int at_, rfl, 17, at_, rfl, rfl, cm _, _, _, rfl, rfl, _, 5, rfl, rfl, ?_⟩
      have ef1 : (upd H a (.dK (feedKvs c (at_ + 1) left))) a = some (.dK (feedKvs c (at_ + 1) left)) := upd_same
      have kp1 : Kept a H (upd H a (.dK (feedKvs c (at_ + 1) left))) := Kept.put _
      refine ⟨.ref a, rfl, a, _, rfl, get_cells ef1, (by show 0 ≤ sizeLine; decide), fun l nl => ?_⟩
      have kp2 : Kept a H (upd (upd H a (.dK (feedKvs c (at_ + 1) left))) l (.lst [])) := kp1.trans (Kept.of (same_upd nl))
      have ef2 : (upd (upd H a (.dK (feedKvs c (at_ + 1) left))) l (.lst [])) a = some (.dK (feedKvs c (at_ + 1) left)) := same_upd nl _ _ ef1
      have sc2 := kp2.seq ef sc
      refine ⟨_, _, dp_ints sc2, dp_ints (ns := []) (SqL.of upd_same), shaped_ints _, shaped_ints [], _, rfl, ?_⟩
      show if (!PyData.eqv (.list (ns.map PyData.int)) (.list [])) = true then _ else _
      rw [eqv_nil]
      by_cases e : ns = []
      · refine noOf (by rw [decide_eq_true e]; rfl) ?_
        exact pt _ _ kp2 ef2
      · refine yesOf (by rw [decide_eq_false e]; rfl) ?_
        have lp : 0 < ns.length := List.length_pos_iff.mpr e
        refine ⟨_, rfl, .ref a, rfl, a, _, rfl, get_cells ef2, .int at_, rfl, .ref a, rfl, a, _, rfl, get_cells ef2, c, _, rfl, .inl sc2, at_, _, rfl, rfl, (by show (0 : Int) < ((ns.map V.int).length : Int); rw [List.length_map]; omega), ?_⟩
        obtain ⟨j, hj⟩ := Int.eq_ofNat_of_zero_le (Int.emod_nonneg at_ (b := (ns.map V.int).length) (by rw [List.length_map]; omega))
        have jl : j < ns.length := by
          have := Int.emod_lt_of_pos at_ (b := (ns.map V.int).length) (by rw [List.length_map]; omega)
          rw [List.length_map] at this hj
          omega
        refine ⟨c, _, at_ % ((ns.map V.int).length : Int), .int ns[j], rfl, rfl, sc2, by rw [hj]; exact atI_nat (by rw [List.getElem?_map, List.getElem?_eq_getElem jl]; rfl), _, _, rfl, rfl, ?_⟩
        exact pt _ _ kp2 ef2
end
end K33
set_option Elab.async false
set_option linter.all false
set_option maxRecDepth 100000
set_option maxHeartbeats 1000000
/-! The law's own hand: what it picks; signs and maps of them. -/
set_option exponentiation.threshold 400
namespace K33
open PySem PySem.Spec PyProof.Rows L2 Bp
section
variable {P : Program} {w : World} {K : PySem.W.Frag} {mg : Str → Option Value} {base : Heap}
theorem ix_either {X : Cx} : IxR X (fun x y H Q => rIxL X.K x y H Q ∨ rIxS x y H Q) := by
  intro value slice pins s σ H x y v u Q I rx ry h hs
  rcases h with h | h
  · exact ix_list value slice pins s σ H x y v u Q I rx ry h hs
  · exact ix_str value slice pins s σ H x y v u Q I rx ry h hs
/-! ### a pick -/
abbrev Drw (P : Program) (w : World) (K : PySem.W.Frag) (mg : Str → Option Value) (base : Heap) (k : Nat) (f : Addr) (fd : FuncData) : Prop := FnOk P w K mg base CX0 k f fd ["_law_feed_here", "_law_many"] (spDraw K)
theorem scPick : FnScope ["_law_feed_here", "_law_some"] ["_law_feed_here", "_law_some"] (defScope sPick) := ⟨rfl, rfl, rfl, by decide +kernel, rfl, by decide +kernel, by decide +kernel⟩
def spPick (K : PySem.W.Frag) : Sp := fun vs H Q _ => ∃ (f : Fed) (v : V) (n : Nat), vs = [.ref f.f, v] ∧ FeedAt K H f n ∧ n ≤ 2 ^ 40 ∧
  ((∃ m : List Nat, v = .str (tx m) ∧ 0 < m.length ∧ m.length ≤ 1000 ∧ ∀ c H', c ∈ m → FeedAt K H' f (n + 1) → Kept f.f H H' → Q (.str (tx [c])) H') ∨
   (∃ (l : Addr) (xs : List V), v = .ref l ∧ SqL K H l xs ∧ 0 < xs.length ∧ xs.length ≤ 1000 ∧ ∀ x H', x ∈ xs → FeedAt K H' f (n + 1) → Kept f.f H H' → Q x H'))
theorem ok_pick {f fD : Addr} {fd fdD : FuncData} {k : Nat} (F : Fun K "_law_pick" "_law_pick" sPick f fd) (FD : Fun K "_law_draw" "_law_draw" sDraw fD fdD) (bD : Binds K fdD ["_law_feed_here", "_law_many"] []) (gD : mg "_law_draw" = some (.ref fD))
    (GD : Drw P w K mg base k fD fdD) (ml : mg "len" = none) : FnOk P w K mg base CX0 (k + 1) f fd ["_law_feed_here", "_law_some"] (spPick K) := by
  refine F.ok scPick (fun vs H Q E h => ?_) (fun cdv A outer s H vs Q E hr h => ?_)
  · obtain ⟨a, v, n, rfl, _⟩ := h
    rfl
  · obtain ⟨a, v, n, rfl, fe, hn, h⟩ := h
    refine ⟨_, pss_one (ps_ret (pe_ix ix_either (pv 1) (pe_call GD hr rfl gD FD.kp bD .nil pass0 (pa_cons (pv 0) (pa_cons (pe_callB call_len (by rfl) ml PySem.boot_len (pa_cons (pv 1) pa_nil)) pa_nil))) (fun _ _ => rfl))), ?_⟩
    rcases h with ⟨m, rfl, m0, m1, q⟩ | ⟨l, xs, rfl, sl, x0, x1, q⟩
    · refine ⟨.str (tx m), rfl, .ref a.f, rfl, .str (tx m), rfl, .str (tx m), m.length, rfl, ⟨?_, (tx_len m).symm⟩, a, _, n, rfl, fe, hn, by omega, ?_, ?_⟩
      · rw [tx_len]
        exact Nat.le_of_lt (small1000 m1)
      · refine Nat.lt_of_lt_of_le (show (m.length : Int).natAbs < 2 ^ 10 by omega) (Nat.pow_le_pow_right (by decide) (by decide))
      · intro d H' d0 dm fe' kp
        obtain ⟨j, rfl⟩ := Int.eq_ofNat_of_zero_le d0
        have jl : j < m.length := by omega
        refine .inr ⟨tx m, _, m[j], rfl, rfl, ?_, ?_, q _ _ (List.getElem_mem jl) fe' kp⟩
        · rw [tx_len]
          exact Nat.le_of_lt (small1000 m1)
        · rw [tx_list]
          exact atI_nat (List.getElem?_eq_getElem jl)
    · refine ⟨.ref l, rfl, .ref a.f, rfl, .ref l, rfl, .ref l, xs.length, rfl, .inl ⟨xs, sl, rfl⟩, a, _, n, rfl, fe, hn, by omega, ?_, ?_⟩
      · refine Nat.lt_of_lt_of_le (show (xs.length : Int).natAbs < 2 ^ 10 by omega) (Nat.pow_le_pow_right (by decide) (by decide))
      · intro d H' d0 dm fe' kp
        obtain ⟨j, rfl⟩ := Int.eq_ofNat_of_zero_le d0
        have jl : j < xs.length := by omega
        obtain ⟨kvs, ea⟩ := fe.dict
        exact .inl ⟨l, xs, _, xs[j], rfl, rfl, kp.seq ea sl, atI_nat (List.getElem?_eq_getElem jl), q _ _ (List.getElem_mem jl) fe' kp⟩
/-! ### signs -/
/-- letters from the first, by steps, around -/
def around (first step : Int) (many : Nat) : List Nat := (List.range many).map fun k => 97 + ((first + step * (k : Nat)) % 26).toNat
theorem around_nd {first step : Int} {many : Nat} (hs : step ∈ ([1, 3, 5, 7, 9, 11] : List Int)) (hm : many ≤ 4) : (around first step many).Nodup := by
  unfold around
  refine List.pairwise_map.mpr ?_
  refine List.Pairwise.imp_of_mem ?_ (List.nodup_range (n := many))
  intro i j hi hj ne e
  have h1 := List.mem_range.mp hi
  have h2 := List.mem_range.mp hj
  have e2 : (first + step * (i : Nat)) % 26 = (first + step * (j : Nat)) % 26 := by
    have a1 := Int.emod_nonneg (first + step * (i : Nat)) (b := 26) (by decide)
    have a2 := Int.emod_nonneg (first + step * (j : Nat)) (b := 26) (by decide)
    omega
  have st : step = 1 ∨ step = 3 ∨ step = 5 ∨ step = 7 ∨ step = 9 ∨ step = 11 := by simpa using hs
  rcases st with rfl | rfl | rfl | rfl | rfl | rfl <;> omega
theorem around_low (first step : Int) (many : Nat) : ∀ c ∈ around first step many, 97 ≤ c ∧ c ≤ 122 := by
  intro c hc
  obtain ⟨k, _, rfl⟩ := List.mem_map.mp hc
  have a1 := Int.emod_nonneg (first + step * (k : Nat)) (b := 26) (by decide)
  have a2 := Int.emod_lt_of_pos (first + step * (k : Nat)) (b := 26) (by decide)
  omega
theorem around_signs {first step : Int} {many : Nat} (hs : step ∈ ([1, 3, 5, 7, 9, 11] : List Int)) (lo : 2 ≤ many) (hm : many ≤ 4) {zs : List Nat} (p : zs.Perm (around first step many)) (srt : sortedS (ones zs) = true) : Signs zs := by
  have nd : zs.Nodup := p.nodup_iff.mpr (around_nd hs hm)
  have len : zs.length = many := by
    rw [p.length_eq]
    unfold around
    rw [List.length_map, List.length_range]
  refine ⟨?_, by omega, by omega, fun c hc => around_low first step many c (p.mem_iff.mp hc)⟩
  refine List.Pairwise.imp₂ ?_ (sorted_ones srt) nd
  intro a b h1 h2
  exact Nat.lt_of_le_of_ne h1 h2
theorem alphabet : ("abcdefghijklmnopqrstuvwxyz" : Str) = tx (List.range' 97 26) := by decide +kernel
theorem scSigns : FnScope ["_law_feed_here", "_law_many", "_law_letters", "_law_first", "_law_step", "_law_k"] ["_law_feed_here", "_law_many"] (defScope sSigns) := ⟨rfl, rfl, rfl, by decide +kernel, rfl, by decide +kernel, by decide +kernel⟩
abbrev Pck (P : Program) (w : World) (K : PySem.W.Frag) (mg : Str → Option Value) (base : Heap) (k : Nat) (f : Addr) (fd : FuncData) : Prop := FnOk P w K mg base CX0 k f fd ["_law_feed_here", "_law_some"] (spPick K)
def spSigns (K : PySem.W.Frag) : Sp := fun vs H Q _ => ∃ (f : Fed) (many n : Nat), vs = [.ref f.f, .int many] ∧ 2 ≤ many ∧ many ≤ 4 ∧ FeedAt K H f n ∧ n ≤ 2 ^ 30 ∧ ∀ s H', Signs s → FeedAt K H' f (n + 2) → Kept f.f H H' → Q (.str (tx s)) H'
theorem ok_signs {f fD fP : Addr} {fd fdD fdP : FuncData} {k : Nat} (F : Fun K "_law_signs" "_law_signs" sSigns f fd) (FD : Fun K "_law_draw" "_law_draw" sDraw fD fdD) (bD : Binds K fdD ["_law_feed_here", "_law_many"] []) (gD : mg "_law_draw" = some (.ref fD))
    (GD : Drw P w K mg base k fD fdD) (FP : Fun K "_law_pick" "_law_pick" sPick fP fdP) (bP : Binds K fdP ["_law_feed_here", "_law_some"] []) (gP : mg "_law_pick" = some (.ref fP)) (GP : Pck P w K mg base k fP fdP)
    (mr : mg "range" = none) (ms : mg "sorted" = none) : FnOk P w K mg base CX0 (k + 1) f fd ["_law_feed_here", "_law_many"] (spSigns K) := by
  refine F.ok scSigns (fun vs H Q E h => ?_) (fun cdv A outer s H vs Q E hr h => ?_)
  · obtain ⟨a, v, n, rfl, _⟩ := h
    rfl
  · obtain ⟨a, many, n, rfl, lo, hi, fe, hn, q⟩ := h
    refine ⟨_, pss_cons (ps_asg (pe_tup (pa_cons pe_str (pa_cons (pe_call GD hr rfl gD FD.kp bD .nil pass0 (pa_cons (pv 0) (pa_cons pe_int pa_nil)))
        (pa_cons (pe_call GP hr rfl gP FP.kp bP .nil pass0 (pa_cons (pv 0) (pa_cons (pe_lst (pa_cons pe_int (pa_cons pe_int (pa_cons pe_int (pa_cons pe_int (pa_cons pe_int (pa_cons pe_int pa_nil))))))) pa_nil))) pa_nil))))
        (pg_tup rfl (pgs_cons (pg_name (i := 2) scSigns.nd rfl (.inr rfl)) (pgs_cons (pg_name (i := 3) scSigns.nd rfl (.inr rfl)) (pgs_cons (pg_name (i := 4) scSigns.nd rfl (.inr rfl)) pgs_nil)))))
      (pss_one (ps_ret (pe_join pe_str (pe_callB cr_sortedS (by rfl) ms (by decide +kernel) (pa_cons (pe_lc (own := [("_law_k", 5)]) (g := gName 5) (tt := tYes) rfl scSigns.nd (pi_range1 (by rfl) mr (pa_cons (pv 1) pa_nil))
        (blkOk_by (own := [("_law_k", 5)]) (N := ["_law_feed_here", "_law_many", "_law_letters", "_law_first", "_law_step", "_law_k"]) (sc := defScope sSigns) (by decide +kernel))
        (fun _ _ _ _ _ => pg_name (i := 5) scSigns.nd rfl (Or.inl rfl)) (fun _ _ _ _ _ => pts_nil) (fun _ _ _ _ _ => pe_ix ix_str (pv 2) (pe_op op_mod (pe_op op_add (pv 3) (pe_op op_mul (pv 4) (pv 5))) pe_int) (fun _ _ => rfl))) pa_nil))))), ?_⟩
    refine ⟨.ref a.f, rfl, a, 26, n, rfl, fe, by omega, by decide, by decide, fun first H1 f0 f1 fe1 kp1 => ?_⟩
    refine ⟨.ref a.f, rfl, (by show 6 ≤ sizeLine; decide), fun l nl => ?_⟩
    refine ⟨a, .ref l, n + 1, rfl, fe1.same (same_upd nl), by omega, .inr ⟨l, [1, 3, 5, 7, 9, 11].map V.int, rfl, SqL.of upd_same, by decide, by decide, fun x H2 hx fe2 kp2 => ?_⟩⟩
    obtain ⟨step, hst, rfl⟩ := List.mem_map.mp hx
    refine ⟨(by show 3 ≤ sizeLine; decide), fun t nt => ?_⟩
    refine ⟨t, _, rfl, SqT.of upd_same, rfl, _, _, rfl, _, _, rfl, _, _, rfl, rfl, ?_⟩
    have s3 : Same H2 (upd H2 t (.tup [.str "abcdefghijklmnopqrstuvwxyz", .int first, .int step])) := same_upd nt
    have st0 : 0 ≤ step ∧ step ≤ 11 := by
      have st : step = 1 ∨ step = 3 ∨ step = 5 ∨ step = 7 ∨ step = 9 ∨ step = 11 := by simpa using hst
      omega
    refine ⟨⟨_, rfl⟩, .int many, rfl, many, rfl, by omega, by omega, fun D nD => ?_⟩
    have tn : (many : Int).toNat = many := Int.toNat_natCast _
    refine lc_tx (H := upd H2 t (.tup [.str "abcdefghijklmnopqrstuvwxyz", .int first, .int step])) (walk_range (lo := 0) (n := (many : Int).toNat)) (fun _ _ => trivial) (fun i => around first step i) rfl (fun i hi => ?_) nD ?_ ?_
    · unfold around
      rw [List.length_map, List.length_range]
      omega
    · rintro i x H4 H5 Qy Qn hi sm ⟨rfl, rfl⟩ qy _
      refine ⟨rfl, yes_kept ?_⟩
      obtain ⟨j, hj⟩ := Int.eq_ofNat_of_zero_le (Int.emod_nonneg (first + step * (0 + (i : Int))) (b := 26) (by decide))
      have jl : j < 26 := by
        have := Int.emod_lt_of_pos (first + step * (0 + (i : Int))) (b := 26) (by decide)
        omega
      refine ⟨.str "abcdefghijklmnopqrstuvwxyz", rfl, .int first, rfl, .int step, rfl, .int (0 + i), rfl, step, 0 + i, rfl, rfl, .inl ⟨by omega, by omega⟩, _, _, rfl, rfl, _, 26, rfl, rfl, (by show (0 : Int) < 26; decide), "abcdefghijklmnopqrstuvwxyz", _, 97 + j, rfl, rfl, by decide +kernel, ?_, qy _ _ (Same.refl _) ?_⟩
      · rw [alphabet, tx_list, hj]
        exact atI_nat (by rw [List.getElem?_range' jl, Nat.one_mul])
      · unfold around
        rw [List.range_succ, List.map_append]
        rw [Int.zero_add] at hj
        show _ ++ [97 + ((first + step * (i : Nat)) % 26).toNat] = _
        rw [hj]
        rfl
    · intro H4 sm hD
      rw [tn] at hD
      refine ⟨D, ones (around first step many), rfl, SqL.of hD, ?_, fun ys p perm srt np => ?_⟩
      · rw [ones_len]
        unfold around
        rw [List.length_map, List.length_range]
        omega
      · obtain ⟨zs, rfl, pz⟩ := perm_ones perm
        have sg := around_signs hst lo hi pz srt
        refine ⟨tx [], p, ones zs, tx_nil ▸ rfl, rfl, .inl (SqL.of upd_same), ?_, ?_⟩
        · rw [ones_sum, ones_len, tx_len]
          have := sg.hi
          simp
          omega
        · show Q _ _
          rw [ones_join]
          have s5 : Same H2 (upd H4 p (.lst ((ones zs).map V.str))) := s3.trans (sm.trans (same_upd np))
          exact q zs _ sg (fe2.same s5) ((kp1.trans (Kept.of (same_upd nl))).trans (kp2.trans (Kept.of s5)))
end
end K33
set_option Elab.async false
set_option linter.all false
set_option maxRecDepth 100000
set_option maxHeartbeats 1000000
/-! The law's own hand: any map of signs. -/
set_option exponentiation.threshold 400
namespace K33
open PySem PySem.Spec PyProof.Rows L2 Bp
section
variable {P : Program} {w : World} {K : PySem.W.Frag} {mg : Str → Option Value} {base : Heap}
theorem map_erase {α β : Type} (g : α → β) : ∀ (l : List α) (i : Nat), (l.map g).eraseIdx i = (l.eraseIdx i).map g
  | [], _ => rfl
  | _ :: _, 0 => rfl
  | x :: l, i + 1 => by
    rw [List.map_cons, List.eraseIdx_cons_succ, List.eraseIdx_cons_succ, List.map_cons, map_erase g l i]
theorem Kept.new {H H1 : Hp} {f l : Addr} {o : HO} (h : Kept f H H1) (e : H l = none) : Kept f H (upd H1 l o) := fun b x n eb => by
  rw [upd_ne (ne_of_none eb e)]
  exact h b x n eb
theorem Kept.none {H H1 : Hp} {f l : Addr} (h : Kept f H H1) (ne : l ≠ f) (e : H1 l = none) : H l = none := by
  cases q : H l with
  | none => rfl
  | some o =>
    have := h _ _ ne q
    rw [e] at this
    cases this
/-! ### the signs, mixed -/
theorem scMixed : FnScope ["_law_feed_here", "_law_signs_here", "_law_left", "_law_found", "_law_k"] ["_law_feed_here", "_law_signs_here"] (defScope sMixed) := ⟨rfl, rfl, rfl, by decide +kernel, rfl, by decide +kernel, by decide +kernel⟩
def spMixed (K : PySem.W.Frag) : Sp := fun vs H Q _ => ∃ (f : Fed) (s : List Nat) (n : Nat), vs = [.ref f.f, .str (tx s)] ∧ Signs s ∧ FeedAt K H f n ∧ n ≤ 2 ^ 30 ∧ ∀ m H', IsMap s m → FeedAt K H' f (n + 4) → Kept f.f H H' → Q (.str (tx m)) H'
theorem ok_mixed {f fD : Addr} {fd fdD : FuncData} {k : Nat} (F : Fun K "_law_mixed" "_law_mixed" sMixed f fd) (FD : Fun K "_law_draw" "_law_draw" sDraw fD fdD) (bD : Binds K fdD ["_law_feed_here", "_law_many"] []) (gD : mg "_law_draw" = some (.ref fD))
    (GD : Drw P w K mg base k fD fdD) (ml : mg "len" = none) (mi : mg "list" = none) (mr : mg "range" = none) : FnOk P w K mg base CX0 (k + 1) f fd ["_law_feed_here", "_law_signs_here"] (spMixed K) := by
  refine F.ok scMixed (fun vs H Q E h => ?_) (fun cdv A outer s H vs Q E hr h => ?_)
  · obtain ⟨a, v, n, rfl, _⟩ := h
    rfl
  · obtain ⟨a, s, n, rfl, hs, fe, hn, q⟩ := h
    refine ⟨_, pss_cons (ps_par (i := 2) (j := 3) rfl scMixed.nd rfl rfl (by decide) rfl rfl (pa_cons (pe_callTy (call_list_text rfl) (by rfl) mi (by decide +kernel) (pa_cons (pv 1) pa_nil)) (pa_cons pe_str pa_nil)) (by rfl))
      (pss_cons (ps_for PassesOwn.never rfl (pi_range1 (by rfl) mr (pa_cons (pe_callB call_len (by rfl) ml PySem.boot_len (pa_cons (pv 1) pa_nil)) pa_nil)) (pg_name (i := 4) scMixed.nd rfl (Or.inl rfl))
        (pss_one (ps_set (i := 3) scMixed.nd rfl (.inl rfl) (pe_op op_add_str (pv 3) (pe_bm PySem.F.plainAttrs_list PySem.F.slot_list_pop PySem.F.type_list_pop mt_popAt (pv 2)
          (pa_cons (pe_call GD hr rfl gD FD.kp bD .nil pass0 (pa_cons (pv 0) (pa_cons (pe_callB call_len (by rfl) ml PySem.boot_len (pa_cons (pv 2) pa_nil)) pa_nil))) pa_nil))))))
      (pss_one (ps_ret (pv 3)))), ?_⟩
    have s4 := hs.hi
    have s2 := hs.lo
    have fit : s.length ≤ sizeLine := Nat.le_of_lt (small1000 (by omega))
    refine ⟨.str (tx s), rfl, tx s, rfl, by rw [tx_len]; exact fit, fun l nl => ?_⟩
    rw [signs_ones]
    refine ⟨_, _, rfl, ?_⟩
    have s1 : Same H (upd H l (.lst ((ones s).map V.str))) := same_upd nl
    have hl0 := upd_same (H := H) (a := l) (o := .lst ((ones s).map V.str))
    refine ⟨.str (tx s), rfl, .str (tx s), s.length, rfl, ⟨by rw [tx_len]; exact fit, (tx_len s).symm⟩, s.length, rfl, by omega, by omega, ?_⟩
    have tn : (s.length : Int).toNat = s.length := Int.toNat_natCast _
    rw [tn]
    refine for_it (walk_range (lo := 0) (n := s.length)) (fun i σ H1 => ∃ acc rest v, σ = [some (.ref a.f), some (.str (tx s)), some (.ref l), some (.str (tx acc)), v] ∧ H1 l = some (.lst ((ones rest).map V.str)) ∧
      acc.length = i ∧ rest.length + i = s.length ∧ (∀ c ∈ acc, c ∈ s) ∧ (∀ c ∈ rest, c ∈ s) ∧ FeedAt K H1 a (n + i) ∧ Kept a.f H H1) ⟨[], s, none, ?_, hl0, rfl, rfl, by simp, fun _ h => h, fe.same s1, Kept.of s1⟩ (fun _ _ _ _ _ => trivial) ?_ ?_
    · rw [← tx_nil]
      rfl
    · rintro i x σ H1 H2 hi ⟨acc, rest, v, rfl, hl, al, rl, ha, hrst, fe1, kp⟩ ⟨rfl, rfl⟩
      have r0 : 0 < rest.length := by omega
      refine ⟨.str (tx acc), rfl, .ref l, rfl, .inl ⟨rfl, _, SqL.of hl⟩, .ref a.f, rfl, .ref l, rfl, .ref l, rest.length, rfl, .inl ⟨_, SqL.of hl, by rw [List.length_map, ones_len]⟩, a, rest.length, n + i, rfl, fe1, by omega, by omega, ?_, ?_⟩
      · refine Nat.lt_of_lt_of_le (show (rest.length : Int).natAbs < 2 ^ 10 by omega) (Nat.pow_le_pow_right (by decide) (by decide))
      · intro d H3 d0 dm fe3 kp3
        obtain ⟨j, rfl⟩ := Int.eq_ofNat_of_zero_le d0
        have jl : j < rest.length := by omega
        obtain ⟨kvs, ea⟩ := fe1.dict
        have la : l ≠ a.f := ne_of hl ea (by intro z; cases z)
        have hl3 := kp3 _ _ la hl
        have ln : ((ones rest).map V.str).length = rest.length := by rw [List.length_map, ones_len]
        have gt : ((ones rest).map V.str)[j]? = some (.str (tx [rest[j]])) := by
          unfold ones
          rw [List.map_map, List.getElem?_map, List.getElem?_eq_getElem jl]
          rfl
        refine ⟨l, _, j, j, .str (tx [rest[j]]), rfl, rfl, hl3, by omega, by omega, ?_, gt, tx acc, tx [rest[j]], rfl, rfl, ?_, ?_⟩
        · rw [ln]
          refine (ixN_seq ?_).1
          unfold ixN
          rw [if_pos (by omega), if_pos (by omega)]
          simp
        · rw [tx_len, tx_len]
          exact Nat.le_of_lt (small1000 (by show acc.length + 1 ≤ 1000; omega))
        · refine ⟨acc ++ [rest[j]], rest.eraseIdx j, some (.int (0 + (i : Int))), ?_, ?_, ?_, ?_, ?_, ?_, ?_, ?_⟩
          · rw [tx_append]
            rfl
          · rw [upd_same]
            unfold ones
            rw [List.map_map, List.map_map, map_erase]
          · rw [List.length_append, al]
            rfl
          · rw [List.length_eraseIdx_of_lt jl]
            omega
          · intro c hc
            rcases List.mem_append.mp hc with hc | hc
            · exact ha c hc
            · rw [List.mem_singleton.mp hc]
              exact hrst _ (List.getElem_mem jl)
          · intro c hc
            exact hrst c (List.mem_of_mem_eraseIdx hc)
          · exact FeedAt.put fe nl fe3
          · exact Kept.new (kp.trans kp3) nl
    · rintro σ H1 ⟨acc, rest, v, rfl, hl, al, rl, ha, hrst, fe1, kp⟩
      refine ⟨.str (tx acc), rfl, q acc H1 ⟨al, ha⟩ (fe1.le (by omega)) kp⟩
/-! ### any map -/
theorem times_one (c n : Nat) : timesS (tx [c]) n = tx (List.replicate n c) := by
  apply str_ext
  rw [tx_list]
  unfold timesS
  have go : ∀ (m : Nat) (acc : Array Nat), ((List.replicate m (tx [c]).cps).foldl (· ++ ·) acc).toList = acc.toList ++ List.replicate m c := by
    intro m
    induction m with
    | zero => intro acc; simp
    | succ m ih =>
      intro acc
      rw [List.replicate_succ, List.foldl_cons, ih, List.replicate_succ]
      unfold tx
      simp
  rw [go]
  rfl
theorem scAny : FnScope ["_law_feed_here", "_law_signs_here", "_law_way", "_law_k"] ["_law_feed_here", "_law_signs_here"] (defScope sAny) := ⟨rfl, rfl, rfl, by decide +kernel, rfl, by decide +kernel, by decide +kernel⟩
def spAny (K : PySem.W.Frag) : Sp := fun vs H Q _ => ∃ (f : Fed) (s : List Nat) (n : Nat), vs = [.ref f.f, .str (tx s)] ∧ Signs s ∧ FeedAt K H f n ∧ n ≤ 2 ^ 29 ∧ ∀ m H', IsMap s m → FeedAt K H' f (n + 5) → Kept f.f H H' → Q (.str (tx m)) H'
abbrev Mxd (P : Program) (w : World) (K : PySem.W.Frag) (mg : Str → Option Value) (base : Heap) (k : Nat) (f : Addr) (fd : FuncData) : Prop := FnOk P w K mg base CX0 k f fd ["_law_feed_here", "_law_signs_here"] (spMixed K)
theorem ok_any {f fD fP fM : Addr} {fd fdD fdP fdM : FuncData} {k : Nat} (F : Fun K "_law_any_map" "_law_any_map" sAny f fd) (FD : Fun K "_law_draw" "_law_draw" sDraw fD fdD) (bD : Binds K fdD ["_law_feed_here", "_law_many"] []) (gD : mg "_law_draw" = some (.ref fD))
    (GD : Drw P w K mg base k fD fdD) (FP : Fun K "_law_pick" "_law_pick" sPick fP fdP) (bP : Binds K fdP ["_law_feed_here", "_law_some"] []) (gP : mg "_law_pick" = some (.ref fP)) (GP : Pck P w K mg base k fP fdP)
    (FM : Fun K "_law_mixed" "_law_mixed" sMixed fM fdM) (bM : Binds K fdM ["_law_feed_here", "_law_signs_here"] []) (gM : mg "_law_mixed" = some (.ref fM)) (GM : Mxd P w K mg base k fM fdM)
    (ml : mg "len" = none) (mr : mg "range" = none) : FnOk P w K mg base CX0 (k + 1) f fd ["_law_feed_here", "_law_signs_here"] (spAny K) := by
  refine F.ok scAny (fun vs H Q E h => ?_) (fun cdv A outer s H vs Q E hr h => ?_)
  · obtain ⟨a, v, n, rfl, _⟩ := h
    rfl
  · obtain ⟨a, s, n, rfl, hs, fe, hn, q⟩ := h
    refine ⟨_, pss_cons (ps_set (i := 2) scAny.nd rfl (.inl rfl) (pe_call GD hr rfl gD FD.kp bD .nil pass0 (pa_cons (pv 0) (pa_cons pe_int pa_nil))))
      (pss_cons (ps_if (pt_cmpR op_eq (pv 2) pe_int (nomark _)) (pss_one (ps_ret (pe_call GM hr rfl gM FM.kp bM .nil pass0 (pa_cons (pv 0) (pa_cons (pv 1) pa_nil))))) pss_nil)
      (pss_cons (ps_if (pt_cmpR op_eq (pv 2) pe_int (nomark _)) (pss_one (ps_ret (pe_op op_mul_str (pe_call GP hr rfl gP FP.kp bP .nil pass0 (pa_cons (pv 0) (pa_cons (pv 1) pa_nil))) (pe_callB call_len (by rfl) ml PySem.boot_len (pa_cons (pv 1) pa_nil))))) pss_nil)
      (pss_one (ps_ret (pe_join pe_str (pe_lc (own := [("_law_k", 3)]) (g := gName 3) (tt := tYes) rfl scAny.nd (pi_range1 (by rfl) mr (pa_cons (pe_callB call_len (by rfl) ml PySem.boot_len (pa_cons (pv 1) pa_nil)) pa_nil))
        (blkOk_by (own := [("_law_k", 3)]) (N := ["_law_feed_here", "_law_signs_here", "_law_way", "_law_k"]) (sc := defScope sAny) (by decide +kernel))
        (fun _ _ _ _ _ => pg_name (i := 3) scAny.nd rfl (Or.inl rfl)) (fun _ _ _ _ _ => pts_nil) (fun _ _ _ _ _ => pe_call GP hr rfl gP FP.kp bP .nil pass0 (pa_cons (pv 0) (pa_cons (pv 1) pa_nil))))))))), ?_⟩
    have s4 := hs.hi
    have s2 := hs.lo
    have fit : (tx s).length ≤ sizeLine := by
      rw [tx_len]
      exact Nat.le_of_lt (small1000 (by omega))
    refine ⟨.ref a.f, rfl, a, 4, n, rfl, fe, by omega, by decide, by decide, fun way H1 _ _ fe1 kp1 => ?_⟩
    refine ⟨.int way, rfl, rfl, _, rfl, ?_⟩
    refine ite2 (fun c0 => ?_) (fun c0 => ?_)
    · exact ⟨.ref a.f, rfl, .str (tx s), rfl, a, s, n + 1, rfl, hs, fe1, by omega, fun m H2 hm fe2 kp2 => q m H2 hm (fe2.le (by omega)) (kp1.trans kp2)⟩
    · refine ⟨.int way, rfl, rfl, _, rfl, ?_⟩
      refine ite2 (fun c1 => ?_) (fun c1 => ?_)
      · refine ⟨.ref a.f, rfl, .str (tx s), rfl, a, .str (tx s), n + 1, rfl, fe1, by omega, .inl ⟨s, rfl, by omega, by omega, fun c H2 hc fe2 kp2 => ?_⟩⟩
        refine ⟨.str (tx s), rfl, .str (tx s), s.length, rfl, ⟨fit, (tx_len s).symm⟩, tx [c], s.length, rfl, rfl, s2, by omega, (by show (1 : Nat) ≠ 0; decide), (by show 1 ≤ 1000; decide), ?_⟩
        rw [times_one]
        exact q _ H2 ⟨List.length_replicate, fun d hd => by rw [List.eq_of_mem_replicate hd]; exact hc⟩ (fe2.le (by omega)) (kp1.trans kp2)
      · refine ⟨⟨_, rfl⟩, .str (tx s), rfl, .str (tx s), s.length, rfl, ⟨fit, (tx_len s).symm⟩, s.length, rfl, by omega, by omega, fun D nD => ?_⟩
        have tn : (s.length : Int).toNat = s.length := Int.toNat_natCast _
        rw [tn]
        have Da : D ≠ a.f := fe1.ne nD
        refine lc_it (walk_range (lo := 0) (n := s.length)) (fun i H2 => ∃ m : List Nat, m.length = i ∧ (∀ c ∈ m, c ∈ s) ∧ H2 D = some (.lst ((ones m).map V.str)) ∧ FeedAt K H2 a (n + 1 + i) ∧ Kept a.f H H2) ⟨[], rfl, by simp, upd_same, fe1.same (same_upd nD), kp1.trans (Kept.of (same_upd nD))⟩ (fun _ _ _ _ => trivial) ?_ ?_
        · rintro i x H2 H3 hi ⟨m, mi, hm, hD, fe2, kp2⟩ ⟨rfl, rfl⟩
          refine ⟨rfl, yes_kept ?_⟩
          refine ⟨.ref a.f, rfl, .str (tx s), rfl, a, .str (tx s), n + 1 + i, rfl, fe2, by omega, .inl ⟨s, rfl, by omega, by omega, fun c H4 hc fe4 kp4 => ?_⟩⟩
          have hD4 := kp4 _ _ Da hD
          refine ⟨_, hD4, ?_, m ++ [c], ?_, ?_, ?_, ?_, ?_⟩
          · rw [List.length_map, ones_len]
            exact small1000 (by omega)
          · rw [List.length_append, mi]
            rfl
          · intro d hd
            rcases List.mem_append.mp hd with hd | hd
            · exact hm d hd
            · rw [List.mem_singleton.mp hd]
              exact hc
          · rw [upd_same, ones_snoc, List.map_append]
            rfl
          · exact FeedAt.put fe1 nD fe4
          · exact Kept.new (kp2.trans kp4) (Kept.none kp1 Da nD)
        · rintro H2 ⟨m, mi, hm, hD, fe2, kp2⟩
          refine ⟨tx [], D, ones m, tx_nil ▸ rfl, rfl, .inl (SqL.of hD), ?_, ?_⟩
          · rw [ones_sum, ones_len, tx_len]
            simp
            omega
          · show Q _ H2
            rw [ones_join]
            exact q m H2 ⟨mi, hm⟩ (fe2.le (by omega)) kp2
end
end K33
set_option Elab.async false
set_option linter.all false
set_option maxRecDepth 100000
set_option maxHeartbeats 1000000
/-! The law's own hand: its own reckoning of maps. -/
set_option exponentiation.threshold 400
namespace K33
open PySem PySem.Spec PyProof.Rows L2 Bp
abbrev sThen : Stmt := topS 18
abbrev sAll : Stmt := topS 19
abbrev sLTurned : Stmt := topS 20
abbrev sRight : Stmt := topS 21
abbrev sLaw : Stmt := topS 22
section
variable {P : Program} {w : World} {K : PySem.W.Frag} {mg : Str → Option Value} {base : Heap}
/-! ### then -/
theorem scThen : FnScope ["_law_signs_here", "_law_one", "_law_other", "_law_k"] ["_law_signs_here", "_law_one", "_law_other"] (defScope sThen) := ⟨rfl, rfl, rfl, by decide +kernel, rfl, by decide +kernel, by decide +kernel⟩
def spThen : Sp := fun vs H Q _ => ∃ s one other : List Nat, vs = [.str (tx s), .str (tx one), .str (tx other)] ∧ Signs s ∧ IsMap s one ∧ IsMap s other ∧ ∀ H', Same H H' → Q (.str (tx (thn s one other))) H'
theorem ok_then {f : Addr} {fd : FuncData} {k : Nat} (F : Fun K "_law_then" "_law_then" sThen f fd) (ml : mg "len" = none) (mr : mg "range" = none) : FnOk P w K mg base CX0 (k + 1) f fd ["_law_signs_here", "_law_one", "_law_other"] spThen := by
  refine F.ok scThen (fun vs H Q E h => ?_) (fun cdv A outer s H vs Q E hr h => ?_)
  · obtain ⟨s, one, other, rfl, _⟩ := h
    rfl
  · obtain ⟨s, one, other, rfl, hs, ho, hq, q⟩ := h
    have s4 := hs.hi
    have s2 := hs.lo
    refine ⟨_, pss_one (ps_ret (pe_join pe_str (pe_lc (own := [("_law_k", 3)]) (g := gName 3) (tt := tYes) rfl scThen.nd (pi_range1 (by rfl) mr (pa_cons (pe_callB call_len (by rfl) ml PySem.boot_len (pa_cons (pv 0) pa_nil)) pa_nil))
      (blkOk_by (own := [("_law_k", 3)]) (N := ["_law_signs_here", "_law_one", "_law_other", "_law_k"]) (sc := defScope sThen) (by decide +kernel))
      (fun _ _ _ _ _ => pg_name (i := 3) scThen.nd rfl (Or.inl rfl)) (fun _ _ _ _ _ => pts_nil) (fun _ _ _ _ _ => pe_ix ix_str (pv 2) (pe_m1 PySem.F.slot_str_index PySem.F.type_str_index mt_sindex (pv 0) (pe_ix ix_str (pv 1) (pv 3) (fun _ _ => rfl))) (fun _ _ => rfl))))), ?_⟩
    have fit : ∀ m : List Nat, m.length = s.length → (tx m).length ≤ sizeLine := fun m e => by
      rw [tx_len]
      exact Nat.le_of_lt (small1000 (by omega))
    refine ⟨⟨_, rfl⟩, .str (tx s), rfl, .str (tx s), s.length, rfl, ⟨fit s rfl, (tx_len s).symm⟩, s.length, rfl, by omega, by omega, fun D nD => ?_⟩
    have tn : (s.length : Int).toNat = s.length := Int.toNat_natCast _
    rw [tn]
    refine lc_tx (H := H) (walk_range (lo := 0) (n := s.length)) (fun _ _ => trivial) (fun i => thn s (one.take i) other) rfl (fun i _ => ?_) nD ?_ ?_
    · unfold thn
      rw [List.length_map, List.length_take, ho.1]
      omega
    · rintro i x H1 H2 Qy Qn hi sm ⟨rfl, rfl⟩ qy _
      have il : i < one.length := by rw [ho.1]; exact hi
      have hc' : one[i]? = some one[i] := List.getElem?_eq_getElem il
      have inS : one[i] ∈ s := ho.2 _ (List.getElem_mem il)
      have lt : s.idxOf one[i] < other.length := by rw [hq.1]; exact List.idxOf_lt_length_of_mem inS
      refine ⟨rfl, yes_kept ?_⟩
      refine ⟨.str (tx other), rfl, .str (tx s), rfl, ⟨_, rfl⟩, .str (tx one), rfl, .int (0 + (i : Int)), rfl, tx one, _, one[i], rfl, rfl, fit one ho.1, ?_, tx s, tx [one[i]], s.idxOf one[i], [], rfl, rfl, occ_first inS, tx other, _, other[s.idxOf one[i]], rfl, rfl, fit other hq.1, ?_, qy _ _ (Same.refl _) ?_⟩
      · rw [tx_list, Int.zero_add]
        exact atI_nat hc'
      · rw [tx_list]
        exact atI_nat (List.getElem?_eq_getElem lt)
      · rw [List.take_add_one, hc']
        unfold thn
        rw [List.map_append]
        show _ ++ [other.getD (s.idxOf one[i]) 0] = _
        rw [List.getD_eq_getElem?_getD, List.getElem?_eq_getElem lt]
        rfl
    · intro H1 sm hD
      have all : one.take s.length = one := List.take_of_length_le (Nat.le_of_eq ho.1)
      rw [all] at hD
      refine ⟨tx [], D, ones (thn s one other), tx_nil ▸ rfl, rfl, .inl (SqL.of hD), ?_, ?_⟩
      · rw [ones_sum, ones_len, tx_len]
        unfold thn
        rw [List.length_map, ho.1]
        simp
        omega
      · show Q _ H1
        rw [ones_join]
        exact q H1 sm
/-! ### all powers -/
theorem scAll : FnScope ["_law_signs_here", "_law_one", "_law_found", "_law_here"] ["_law_signs_here", "_law_one"] (defScope sAll) := ⟨rfl, rfl, rfl, by decide +kernel, rfl, by decide +kernel, by decide +kernel⟩
theorem ok_all {f fT : Addr} {fd fdT : FuncData} {k : Nat} (F : Fun K "_law_all_powers" "_law_all_powers" sAll f fd) (FT : Fun K "_law_then" "_law_then" sThen fT fdT) (bT : Binds K fdT ["_law_signs_here", "_law_one", "_law_other"] []) (gT : mg "_law_then" = some (.ref fT))
    (GT : FnOk P w K mg base CX0 k fT fdT ["_law_signs_here", "_law_one", "_law_other"] spThen) : FnOk P w K mg base CX0 (k + 1) f fd ["_law_signs_here", "_law_one"] spPows := by
  refine F.ok scAll (fun vs H Q E h => ?_) (fun cdv A outer s H vs Q E hr h => ?_)
  · obtain ⟨s, one, rfl, _⟩ := h
    rfl
  · obtain ⟨s, one, rfl, hs, hm, q⟩ := h
    refine ⟨_, pss_cons (ps_par (i := 2) (j := 3) rfl scAll.nd rfl rfl (by decide) rfl rfl (pa_cons (pe_lst pa_nil) (pa_cons (pv 0) pa_nil)) (by rfl))
      (pss_cons (ps_while PassesOwn.never (pt_cmpR op_notIn_seq (pv 3) (pv 2) (by rfl))
        (pss_cons (ps_expr (pe_bm PySem.F.plainAttrs_list PySem.F.slot_list_append PySem.F.type_list_append mt_append (pv 2) (pa_cons (pv 3) pa_nil)))
        (pss_one (ps_set (i := 3) scAll.nd rfl (.inl rfl) (pe_call GT hr rfl gT FT.kp bT .nil pass0 (pa_cons (pv 0) (pa_cons (pv 3) (pa_cons (pv 1) pa_nil))))))))
      (pss_one (ps_ret (pe_tup (pa_cons (pv 2) (pa_cons (pe_bm PySem.F.plainAttrs_list PySem.F.slot_list_index PySem.F.type_list_index mt_index (pv 2) (pa_cons (pv 3) pa_nil)) pa_nil)))))), ?_⟩
    refine ⟨(by show 0 ≤ sizeLine; decide), fun l nl => ?_⟩
    refine ⟨.str (tx s), rfl, _, _, rfl, ?_⟩
    refine ⟨fun m σ H1 => ∃ n, σ = [some (.str (tx s)), some (.str (tx one)), some (.ref l), some (.str (tx (pw s one n)))] ∧ n + m = 300 ∧ (∀ i, i < n → pw s one i ∉ pws s one i) ∧ Same H H1 ∧ H1 l = some (.lst (txs (pws s one n))), ⟨300, 0, rfl, rfl, fun i hi => absurd hi (Nat.not_lt_zero _), same_upd nl, upd_same⟩, ?_⟩
    rintro m σ H1 ⟨n, rfl, hn, no, sm, hl⟩
    have few := pws_few hs.hi hm no
    have mp := isMap_pw hm n
    refine ⟨.str (tx (pw s one n)), rfl, .ref l, rfl, l, txs (pws s one n), rfl, .inl (SqL.of hl), rfl, txs_flat _, _, rfl, ?_⟩
    show if (!inV (.str (tx (pw s one n))) (txs (pws s one n))) = true then _ else _
    rw [inV_txs]
    by_cases c : pw s one n ∈ pws s one n
    · refine noOf (by rw [decide_eq_true c]; rfl) ?_
      refine ⟨.ref l, rfl, .ref l, rfl, .inl ⟨rfl, _, SqL.of hl⟩, .str (tx (pw s one n)), rfl, l, txs (pws s one n), _, _, _, rfl, rfl, SqL.of hl, rfl, txs_flat _, txs_at c, by rw [eqV_tx]; exact decide_eq_true rfl, fun i z hi e => txs_before i z hi e, ?_⟩
      refine ⟨by show 2 ≤ sizeLine; decide, fun t nt => ?_⟩
      have lt : l ≠ t := ne_of_none hl nt
      refine q n _ t l ⟨c, no⟩ few (sm.trans (same_upd nt)) (sm.free nt) upd_same ?_
      rw [upd_ne lt]
      exact hl
    · refine yesOf (by rw [decide_eq_false c]; rfl) ?_
      refine ⟨fun σ' H' => ∃ n', σ' = [some (.str (tx s)), some (.str (tx one)), some (.ref l), some (.str (tx (pw s one n')))] ∧ n' = n + 1 ∧ (∀ i, i < n' → pw s one i ∉ pws s one i) ∧ Same H H' ∧ H' l = some (.lst (txs (pws s one n'))), ?_, ?_⟩
      · rintro σ' H' ⟨n', e, e2, no', sm', hl'⟩
        exact ⟨m - 1, by omega, n', e, by omega, no', sm', hl'⟩
      · refine ⟨.ref l, rfl, .inl ⟨rfl, _, SqL.of hl⟩, .str (tx (pw s one n)), rfl, l, _, _, rfl, rfl, hl, ?_, ?_⟩
        · rw [txs_len, pws_len]
          exact small1000 (by omega)
        · refine ⟨.str (tx s), rfl, .str (tx (pw s one n)), rfl, .str (tx one), rfl, s, pw s one n, one, rfl, hs, mp, hm, fun H2 s2 => ?_⟩
          refine ⟨n + 1, rfl, rfl, fun i hi => ?_, fun b o e => ?_, ?_⟩
          · rcases Nat.lt_or_ge i n with z | z
            · exact no i z
            · have : i = n := by omega
              rw [this]
              exact c
          · refine s2 _ _ ?_
            rw [upd_ne (ne_of_none e nl)]
            exact sm _ _ e
          · refine s2 _ _ ?_
            rw [upd_same, pws_succ, txs_snoc]
end
end K33
set_option Elab.async false
set_option linter.all false
set_option maxRecDepth 100000
set_option maxHeartbeats 1000000
/-! The law's own hand: how it asks for the map that turns one back. -/
set_option exponentiation.threshold 400
namespace K33
open PySem PySem.Spec PyProof.Rows L2 Bp
section
variable {P : Program} {w : World} {K : PySem.W.Frag} {mg : Str → Option Value} {base : Heap} {C fI : Addr}
theorem scLT : FnScope ["_law_signs_here", "_law_one", "_law_wrong", "_law_found", "e"] ["_law_signs_here", "_law_one"] (defScope sLTurned) := ⟨rfl, rfl, rfl, by decide +kernel, rfl, by decide +kernel, by decide +kernel⟩
def spLT : Sp := fun vs H Q _ => ∃ s m : List Nat, vs = [.str (tx s), .str (tx m)] ∧ Signs s ∧ IsMap s m ∧
  ((∀ c ∈ s, c ∈ m) → ∀ H', Same H H' → Q (.str (tx (back s m))) H') ∧
  (∀ (i c : Nat), s[i]? = some c → c ∉ m → (∀ (j e : Nat), j < i → s[j]? = some e → e ∈ m) → ∀ t H', Same H H' → H' t = some (.tup [.str "none", .str (tx [c])]) → Q (.ref t) H')
def tHold (a : Addr) (cls : Value) (d : Option Addr) (K : PySem.W.Frag) (C : Addr) : TS :=
  tAsg (tIf (tB (tCB (rIsUp a cls K) (tCons (tVar 4) (tCons (tC (.ty "LookupError")) tNil)))) (tTup (tCons (tC (.str "none")) (tCons (tXf a cls d C "sign" (tVar 4)) tNil))) (tTup (tCons (tC (.str "odd")) tNil))) (gName 2)
theorem ok_lturned {f fT : Addr} {fd fdT : FuncData} {k : Nat} (F : Fun K "_law_turned" "_law_turned" sLTurned f fd) (T : NotOneTxt K mg C fI) (FT : Fun K "turned_map" "turned_map" sTurn fT fdT) (bT : Binds K fdT ["signs", "one"] []) (gT : mg "turned_map" = some (.ref fT))
    (GT : FnOk P w K mg base (L2.CX P w) k fT fdT ["signs", "one"] (spTurn C)) (mi : mg "isinstance" = none) (mL : mg "LookupError" = none) : FnOk P w K mg base CX0 (k + 1) f fd ["_law_signs_here", "_law_one"] spLT := by
  refine F.ok scLT (fun vs H Q E h => ?_) (fun cdv A outer s H vs Q E hr h => ?_)
  · obtain ⟨s, m, rfl, _⟩ := h
    rfl
  · obtain ⟨s, m, rfl, hs, hm, qb, qe⟩ := h
    refine ⟨_, pss_cons (ps_asg (pe_tup (pa_cons pe_non (pa_cons pe_non pa_nil))) (pg_tup rfl (pgs_cons (pg_name (i := 2) scLT.nd rfl (.inl rfl)) (pgs_cons (pg_name (i := 3) scLT.nd rfl (.inl rfl)) pgs_nil))))
      (pss_cons (ps_try_as (i := 4) (tb := fun W => tAsg (tCallS (spTurn C) (WE W) (tCons (tVar 0) (tCons (tVar 1) tNil))) (gName 3)) (ts := fun a cls d => tHold a cls d K C) (Wout := fun _ _ _ _ => False) rfl rfl scLT.nd rfl rfl ⟨rfl, by decide, Or.inl T.gC⟩ takes0
          (fun W pn xe tk _ => pss_one (ps_set (i := 3) scLT.nd rfl (Or.inl rfl) (by exact (pe_callS GT hr rfl gT FT.kp bT (fun σ => passAt tk σ) (by exact (pa_cons (pv 0) (pa_cons (pv 1) pa_nil)))))))
          (fun a oe cls d pn hz hf => pss_one (ps_set (i := 2) scLT.nd rfl (Or.inl rfl) (by exact (pe_ifExp (pt_val (pe_callB (call_isUp hz) (by rfl) mi (by decide +kernel) (pa_cons (pv 4) (pa_cons (pe_bltn (u := .type "LookupError") (v := .ty "LookupError") (by rfl) mL (by decide +kernel) (by rfl)) pa_nil))))
            (pe_tup (pa_cons pe_str (pa_cons (pe_xf T.xf T.noF hz hf (pv 4)) pa_nil))) (pe_tup (pa_cons pe_str pa_nil)))))))
      (pss_one (ps_ret (pe_ifExp (pt_cmpR op_isN (pv 2) pe_non (nomark _)) (pv 3) (pv 2))))), ?_⟩
    refine ⟨(by show 2 ≤ sizeLine; decide), fun t nt => ?_⟩
    refine ⟨t, _, rfl, SqT.of upd_same, rfl, _, _, rfl, _, _, rfl, rfl, ?_⟩
    have s1 : Same H (upd H t (.tup [.non, .non])) := same_upd nt
    refine ⟨.str (tx s), rfl, .str (tx m), rfl, s, m, rfl, hs, hm, fun all H1 sm => ?_, fun i c hi hc before d H1 sm ed => ?_⟩
    · refine ⟨.non, rfl, rfl, _, rfl, yesOf (decide_eq_true rfl) ?_⟩
      exact ⟨.str (tx (back s m)), rfl, qb all H1 (s1.trans sm)⟩
    · refine ⟨true, T.te, fun _ a na => ?_, fun z => Bool.noConfusion z⟩
      refine ⟨.ref a, rfl, C, "LookupError", rfl, rfl, rfl, T.up, _, rfl, ?_⟩
      refine ⟨.ref a, rfl, rfl, rfl, d, _, .str (tx [c]), rfl, ed, rfl, (by show 2 ≤ sizeLine; decide), fun r nr => ?_⟩
      refine ⟨.ref r, rfl, rfl, _, rfl, noOf (decide_eq_false (by intro z; cases z)) ?_⟩
      refine ⟨.ref r, rfl, ?_⟩
      exact qe i c hi hc before r _ ((s1.trans sm).trans (same_upd nr)) upd_same
end
end K33
set_option Elab.async false
set_option linter.all false
set_option maxRecDepth 100000
set_option maxHeartbeats 2000000
/-! The law's own hand: what it holds against the program. -/
set_option exponentiation.threshold 400
namespace K33
open PySem PySem.Spec PyProof.Rows L2 Bp
section
variable {P : Program} {w : World} {K : PySem.W.Frag} {mg : Str → Option Value} {base : Heap} {C fI : Addr}
/-- a def of the text where no display is under way -/
theorem okG {x qual : Str} {st : Stmt} {f : Addr} {fd : FuncData} {N ps : List Str} {k : Nat} {sp : Sp} (F : Fun K x qual st f fd) (S : FnScope N ps (defScope st)) (len : ∀ vs H Q E, sp vs H Q E → vs.length = ps.length)
    (hbody : ∀ (cdv : Value) (A : Around) (outer : List Env) (s : Shared) (H : Hp) (vs : List V) (Q : VK) (E : XK), RoomG k (A.deeper (envOfC qual (defScope st) s.heap.objs.size f cdv)) → sp vs H Q E →
      ∃ t, PSs (cxOf CX0 P w K mg base N qual (defScope st) f cdv A outer s H E) (defBody st) t ∧ t { nx := fun _ H' => Q .non H', rt := Q } (start N vs) H) : FnG P w K mg base CX0 (k + 1) f fd ps sp := by
  obtain ⟨oc, od, kV, doc, pm, an, cdv, ct, osl, rfl, lk, hcd⟩ := F.ex
  exact fnG_of lk hcd S len fun A outer s H vs Q E hr hsp => hbody cdv A outer s H vs Q E hr hsp
/-! ### what it reads -/
theorem fits_tx {m : List Nat} (h : Low m) (few : m.length ≤ 1000) : (reprText (tx m)).length ≤ sizeLine := by
  have e := StrLaws.reprText_len (tx m) (fun c hc => by
    rw [tx_list] at hc
    have := (h c hc).2
    omega)
  rw [tx_len] at e
  rw [sizeLine_eq]
  omega
theorem low_of {s m : List Nat} (hs : Signs s) (h : ∀ c ∈ m, c ∈ s) : Low m := fun c hc => hs.small c (h c hc)
theorem shaped_tx {m : List Nat} (h : Low m) : PyData.canLay0 (.str (tx m)) = true := by
  rw [PyData.canLay0]
  refine Array.all_eq_true_iff_forall_mem.mpr fun c hc => ?_
  have hc' : c ∈ m := by
    unfold tx at hc
    simpa using hc
  have := (h c hc').2
  exact decide_eq_true (by omega)
/-- two numbers as they are shown -/
def pairD (a b : Int) : PyData := .tuple [.int a, .int b]
theorem dp_pair {H : Hp} {t : Addr} {a b : Int} (h : H t = some (.tup [.int a, .int b])) : Dp K H (.ref t) (pairD a b) := .tup (SqT.of h) (.cons (.int a) (.cons (.int b) .nil))
theorem shown_few (n : Nat) (h : n < 300) : (toString (n : Int) : Str).length ≤ 3 ∧ ((n : Int).natAbs.log2 < 1920) := by
  have all : ∀ n : Nat, n < 300 → ((toString (n : Int) : Str).length ≤ 3 ∧ ((n : Int).natAbs.log2 < 1920)) := by decide +kernel
  exact all n h
theorem pair_fits {a b : Nat} (ha : a < 300) (hb : b < 300) : (pairD a b).showable = true ∧ (pairD a b).hasDict = false ∧ (pairD a b).depth ≤ 60 ∧ (pairD a b).shown.length ≤ sizeLine := by
  obtain ⟨a1, a2⟩ := shown_few a ha
  obtain ⟨b1, b2⟩ := shown_few b hb
  unfold pairD
  refine ⟨?_, ?_, ?_, ?_⟩
  · rw [PyData.showable, PyData.showableAll, PyData.showableAll, PyData.showableAll, PyData.showable, PyData.showable, decide_eq_true a2, decide_eq_true b2]
    rfl
  · rw [PyData.hasDict, PyData.hasDictAll, PyData.hasDictAll, PyData.hasDictAll, PyData.hasDict, PyData.hasDict]
    rfl
  · rw [PyData.depth, PyData.depthAll, PyData.depthAll, PyData.depthAll, PyData.depth, PyData.depth]
    decide
  · rw [PyData.shown, PyData.shownAll, PyData.shownAll, PyData.shownAll, PyData.shown, PyData.shown, sizeLine_eq]
    show (("(" : Str) ++ ((toString (a : Int) : Str) ++ ", " ++ (toString (b : Int) : Str)) ++ (")" : Str)).length ≤ 16777216
    rw [strLen_append, strLen_append, strLen_append, strLen_append]
    have e1 : ("(" : Str).length = 1 := rfl
    have e2 : (", " : Str).length = 2 := rfl
    have e3 : (")" : Str).length = 1 := rfl
    omega
/-- the signs that nothing becomes -/
def lost (s m : List Nat) : List Nat := s.filter fun c => !decide (c ∈ m)
theorem lost_nil {s m : List Nat} : lost s m = [] ↔ ∀ c ∈ s, c ∈ m := by
  unfold lost
  rw [List.filter_eq_nil_iff]
  constructor
  · intro h c hc
    have := h c hc
    simpa using this
  · intro h c hc
    have := h c hc
    simpa using this
theorem lost_first {m : List Nat} : ∀ {s : List Nat} {i c : Nat}, s[i]? = some c → c ∉ m → (∀ (j e : Nat), j < i → s[j]? = some e → e ∈ m) → (lost s m)[0]? = some c
  | [], i, c, h, _, _ => by simp at h
  | a :: s, 0, c, h, hc, _ => by
    have e : a = c := Option.some.inj h
    subst e
    unfold lost
    rw [List.filter_cons, if_pos (by rw [decide_eq_false hc]; rfl)]
    rfl
  | a :: s, i + 1, c, h, hc, hb => by
    have ha : a ∈ m := hb 0 a (Nat.succ_pos i) rfl
    have ih := lost_first (m := m) (s := s) (i := i) (c := c) h hc fun j e hj he => hb (j + 1) e (by omega) he
    unfold lost at ih ⊢
    rw [List.filter_cons, if_neg (by rw [decide_eq_true ha]; exact Bool.false_ne_true)]
    exact ih
theorem lost_take {s m : List Nat} {i c : Nat} (h : s[i]? = some c) : lost (s.take (i + 1)) m = if c ∈ m then lost (s.take i) m else lost (s.take i) m ++ [c] := by
  unfold lost
  rw [List.take_add_one, h, List.filter_append]
  by_cases k : c ∈ m
  · rw [if_pos k]
    simp [k]
  · rw [if_neg k]
    simp [k]
theorem lost_few (s m : List Nat) : (lost s m).length ≤ s.length := List.length_filter_le _ _
theorem lost_in {s m : List Nat} {c : Nat} (h : c ∈ lost s m) : c ∈ s := (List.mem_filter.mp h).1
theorem ones_ll (l : List Nat) : (ones l).map V.str = (l.map fun c => [c]).map fun m => V.str (tx m) := ones_texts l
theorem eqv_ones (l : List Nat) : PyData.eqv (.list ((l.map fun c => [c]).map fun m => PyData.str (tx m))) (.list []) = decide (l = []) := by
  rw [PyData.eqv]
  have := eqv_texts (l.map fun c => [c]) []
  rw [List.map_nil] at this
  rw [this]
  refine decide_eq_decide.mpr ⟨fun e => List.map_eq_nil_iff.mp e, fun e => by rw [e]; rfl⟩
theorem shaped_none {c : Nat} (h : 97 ≤ c ∧ c ≤ 122) : SeqAt.shaped (.tuple [.str "none", .str (tx [c])]) = true := by
  unfold SeqAt.shaped
  rw [PyData.canLay0, PyData.canLayAll0, PyData.canLayAll0, PyData.canLayAll0, shaped_tx (m := [c]) (fun d hd => by rw [List.mem_singleton.mp hd]; exact h), PyData.canLay0, PyData.depth, PyData.depthAll, PyData.depthAll, PyData.depthAll, PyData.depth, PyData.depth]
  decide +kernel
theorem eqv_none (c : Nat) : PyData.eqv (.tuple [.str "none", .str (tx [c])]) (.tuple [.str "none", .str (tx [c])]) = true := by
  rw [PyData.eqv, PyData.eqvAll, PyData.eqvAll, PyData.eqvAll, PyData.eqv, PyData.eqv, beq_self_eq_true, beq_self_eq_true]
  rfl
theorem dp_none {H : Hp} {t : Addr} {c : Nat} (h : H t = some (.tup [.str "none", .str (tx [c])])) : Dp K H (.ref t) (.tuple [.str "none", .str (tx [c])]) := .tup (SqT.of h) (.cons (.str _) (.cons (.str _) .nil))
theorem shaped_str {m : List Nat} (h : Low m) : SeqAt.shaped (.str (tx m)) = true := by
  unfold SeqAt.shaped
  rw [shaped_tx h, PyData.depth]
  decide
theorem low_back {s m : List Nat} (hs : Signs s) (hm : IsMap s m) (all : ∀ c ∈ s, c ∈ m) : Low (back s m) := fun c hc => by
  obtain ⟨d, hd, rfl⟩ := List.mem_map.mp hc
  exact hs.small _ (getD_mem (by rw [← hm.1]; exact List.idxOf_lt_length_of_mem (all d hd)))
/-- what the law says of the map that turns one back -/
def DueOk (s m : List Nat) (H : Hp) (due : V) : Prop := (lost s m = [] ∧ due = .str (tx (back s m))) ∨ ∃ t c, due = .ref t ∧ H t = some (.tup [.str "none", .str (tx [c])]) ∧ (lost s m)[0]? = some c
/-! ### right -/
theorem scRight : FnScope ["_law_feed_here", "_law_signs_here", "_law_one", "_law_other", "_law_all_of", "_law_at", "_law_times", "_law_spot", "_law_goal", "_law_due", "_law_lost", "_law_sign"] ["_law_feed_here", "_law_signs_here", "_law_one", "_law_other"] (defScope sRight) := ⟨rfl, rfl, rfl, by decide +kernel, rfl, by decide +kernel, by decide +kernel⟩
abbrev Ns12 : List Str := ["_law_feed_here", "_law_signs_here", "_law_one", "_law_other", "_law_all_of", "_law_at", "_law_times", "_law_spot", "_law_goal", "_law_due", "_law_lost", "_law_sign"]
def spRight (K : PySem.W.Frag) : Sp := fun vs H Q _ => ∃ (g : Fed) (s one other : List Nat) (n : Nat), vs = [.ref g.f, .str (tx s), .str (tx one), .str (tx other)] ∧ Signs s ∧ IsMap s one ∧ IsMap s other ∧ FeedAt K H g n ∧ n ≤ 2 ^ 28 ∧
  ∀ H', FeedAt K H' g (n + 4) → Kept g.f H H' → Q (.bl true) H'
/-- a def of the text, as it is called -/
structure Def (P : Program) (w : World) (K : PySem.W.Frag) (mg : Str → Option Value) (base : Heap) (CX : CXT) (k : Nat) (x : Str) (st : Stmt) (ps : List Str) (sp : Sp) : Prop where
  ex : ∃ (f : Addr) (fd : FuncData), Fun K x x st f fd ∧ Binds K fd ps [] ∧ mg x = some (.ref f) ∧ FnOk P w K mg base CX k f fd ps sp
structure Bltn (mg : Str → Option Value) : Prop where
  len : mg "len" = none
  rng : mg "range" = none
  rep : mg "repr" = none
theorem ok_right {k : Nat} (B : Bltn mg) (DA : Def P w K mg base CX0 k "_law_all_powers" sAll ["_law_signs_here", "_law_one"] spPows) (DP : Def P w K mg base CX0 k "_law_pick" sPick ["_law_feed_here", "_law_some"] (spPick K))
  (DD : Def P w K mg base CX0 k "_law_draw" sDraw ["_law_feed_here", "_law_many"] (spDraw K)) (DW : Def P w K mg base CX0 k "power" sPow ["signs", "one", "times"] spPow) (DR : Def P w K mg base CX0 k "map_round" sRound ["signs", "one"] spRound)
  (DT : Def P w K mg base CX0 k "times_to" sTimes ["signs", "one", "other"] spTimes) (DI : Def P w K mg base CX0 k "is_one_to_one" sIsOne ["signs", "one"] spIsOne) (DL : Def P w K mg base CX0 k "_law_turned" sLTurned ["_law_signs_here", "_law_one"] spLT)
    {f : Addr} {fd : FuncData} (F : Fun K "_law_right" "_law_right" sRight f fd) : FnG P w K mg base CX0 (k + 1) f fd ["_law_feed_here", "_law_signs_here", "_law_one", "_law_other"] (spRight K) := by
  obtain ⟨fA, fdA, FA, bA, gA, GA⟩ := DA.ex
  obtain ⟨fP, fdP, FP, bP, gP, GP⟩ := DP.ex
  obtain ⟨fD, fdD, FD, bD, gD, GD⟩ := DD.ex
  obtain ⟨fW, fdW, FW, bW, gW, GW⟩ := DW.ex
  obtain ⟨fR, fdR, FR, bR, gR, GR⟩ := DR.ex
  obtain ⟨fT, fdT, FT, bT, gT, GT⟩ := DT.ex
  obtain ⟨fI, fdI, FI, bI, gI, GI⟩ := DI.ex
  obtain ⟨fL, fdL, FL, bL, gL, GL⟩ := DL.ex
  refine okG F scRight (fun vs H Q E h => ?_) (fun cdv A outer sh H vs Q E hrG h => ?_)
  · obtain ⟨g, s, one, other, n, rfl, _⟩ := h
    rfl
  · obtain ⟨g, s, one, other, n, rfl, hs, hm, ho, fe, hn, q⟩ := h
    have hr := hrG.room
    have quiet := hrG.quiet
    have hu64 : A.units + 3 + 64 < cLine := hr.units
    have s4 := hs.hi
    have s2 := hs.lo
    -- the last word
    obtain ⟨t3, h3, p3⟩ : ∃ t, PSs (cxOf CX0 P w K mg base Ns12 "_law_right" (defScope sRight) f cdv A outer sh H E) ((defBody sRight).drop 8) t ∧
        ∀ (H1 : Hp) (v4 v5 v6 v7 v8 : Option V) (due : V) (D : Addr), FeedAt K H1 g (n + 4) → Kept g.f H H1 → H1 D = some (.lst ((ones (lost s one)).map V.str)) → DueOk s one H1 due →
          t { nx := fun _ H' => Q .non H', rt := Q } [some (.ref g.f), some (.str (tx s)), some (.str (tx one)), some (.str (tx other)), v4, v5, v6, v7, v8, some due, some (.ref D), none] H1 := by
      refine ⟨_, pss_one (ps_ret (pe_and (pe_cmpR op_eq (pe_callB call_reprV (by rfl) B.rep (by decide +kernel) (pa_cons (pe_call GI hr rfl gI FI.kp bI .nil pass0 (pa_cons (pv 1) (pa_cons (pv 2) pa_nil))) pa_nil))
              (pe_callB call_reprV (by rfl) B.rep (by decide +kernel) (pa_cons (pe_cmpR (op_eqD hu64) (pv 10) (pe_lst pa_nil) (nomark _)) pa_nil)) (nomark _))
            (pe_one (pe_cmpR (op_eqD hu64) (pe_call GL hr rfl gL FL.kp bL .nil pass0 (pa_cons (pv 1) (pa_cons (pv 2) pa_nil))) (pv 9) (nomark _))))), ?_⟩
      intro H1 v4 v5 v6 v7 v8 due D fe1 kp1 hD hdue
      refine ⟨.str (tx s), rfl, .str (tx one), rfl, s, one, rfl, hs, hm, fun H2 sm => ?_⟩
      have hD2 := sm _ _ hD
      refine ⟨_, _, rfl, rfl, trivial, .ref D, rfl, (by show 0 ≤ sizeLine; decide), fun l nl => ?_⟩
      have s3 : Same H2 (upd H2 l (.lst [])) := same_upd nl
      have hD3 := s3 _ _ hD2
      rw [ones_ll] at hD3
      have lowL : Low (lost s one) := fun c hc => hs.small c (lost_in hc)
      refine ⟨_, _, dp_texts (SqL.of hD3), dp_texts (l := []) (SqL.of upd_same), shaped_texts (low_ones lowL), shaped_texts (l := []) (fun _ h => by cases h), _, _, rfl, rfl, trivial, rfl, _, rfl, ?_⟩
      have val : PyData.eqv (.list (((lost s one).map fun c => [c]).map fun m => PyData.str (tx m))) (.list (([] : List (List Nat)).map fun m => PyData.str (tx m))) = decide (∀ c ∈ s, c ∈ one) := (eqv_ones (lost s one)).trans (decide_eq_decide.mpr lost_nil)
      refine yesOf (decide_eq_true (congrArg (fun b : Bool => V.str (if b = true then "True" else "False")) val.symm)) ?_
      have kp3 : Kept g.f H (upd H2 l (.lst [])) := kp1.trans (Kept.of (sm.trans s3))
      have fe3 : FeedAt K (upd H2 l (.lst [])) g (n + 4) := fe1.same (sm.trans s3)
      refine ⟨.str (tx s), rfl, .str (tx one), rfl, s, one, rfl, hs, hm, fun all H4 sm4 => ?_, fun i c hi hc before t H4 sm4 ht => ?_⟩
      · rcases hdue with ⟨nl0, rfl⟩ | ⟨t0, c0, _, _, l0⟩
        · refine ⟨.str (tx (back s one)), rfl, _, _, .str _, .str _, ?_, ?_, ?_⟩
          · exact shaped_str (low_back hs hm all)
          · exact shaped_str (low_back hs hm all)
          · rw [PyData.eqv, beq_self_eq_true]
            exact q H4 (fe3.same sm4) (kp3.trans (Kept.of sm4))
        · rw [lost_nil.mpr all] at l0
          cases l0
      · have first := lost_first hi hc before
        rcases hdue with ⟨nl0, rfl⟩ | ⟨t0, c0, rfl, ht0, l0⟩
        · rw [nl0] at first
          cases first
        · rw [first] at l0
          cases l0
          have low1 : 97 ≤ c ∧ c ≤ 122 := hs.small c (List.mem_of_getElem? hi)
          refine ⟨.ref t0, rfl, _, _, dp_none ht, dp_none (sm4 _ _ (s3 _ _ (sm _ _ ht0))), shaped_none low1, shaped_none low1, ?_⟩
          rw [eqv_none]
          exact q H4 (fe3.same sm4) (kp3.trans (Kept.of sm4))
    -- what comes behind the goals
    obtain ⟨tt, ht, pt⟩ : ∃ t, PSs (cxOf CX0 P w K mg base Ns12 "_law_right" (defScope sRight) f cdv A outer sh H E) ((defBody sRight).drop 6) t ∧
        ∀ (H1 : Hp) (v4 v5 v6 v7 v8 v9 : Option V), FeedAt K H1 g (n + 4) → Kept g.f H H1 → t { nx := fun _ H' => Q .non H', rt := Q } [some (.ref g.f), some (.str (tx s)), some (.str (tx one)), some (.str (tx other)), v4, v5, v6, v7, v8, v9, none, none] H1 := by
      refine ⟨_, pss_cons (ps_setLc (i := 10) (own := [("_law_sign", 11)]) (g := gName 11) rfl scRight.nd rfl rfl (by rfl) (pi_str (pv 1)) (blkOk_by (own := [("_law_sign", 11)]) (N := Ns12) (sc := defScope sRight) (by decide +kernel))
          (fun _ _ _ _ _ => pg_name (i := 11) scRight.nd rfl (Or.inl rfl)) (fun _ _ _ _ _ => pts_one (pt_cmpR op_notIn_sign (pv 11) (pv 2) (by rfl))) (fun _ _ _ _ _ => pv 11))
        (pss_cons (ps_set (i := 9) scRight.nd rfl (.inl rfl) (pe_ifExp (pt_cmpR (op_eqD hu64) (pv 10) (pe_lst pa_nil) (nomark _))
            (pe_join pe_str (pe_lc (own := [("_law_sign", 11)]) (g := gName 11) (tt := tYes) rfl scRight.nd (pi_str (pv 1)) (blkOk_by (own := [("_law_sign", 11)]) (N := Ns12) (sc := defScope sRight) (by decide +kernel))
              (fun _ _ _ _ _ => pg_name (i := 11) scRight.nd rfl (Or.inl rfl)) (fun _ _ _ _ _ => pts_nil) (fun _ _ _ _ _ => pe_ix ix_str (pv 1) (pe_m1 PySem.F.slot_str_index PySem.F.type_str_index mt_sindex (pv 2) (pv 11)) (fun _ _ => rfl))))
            (pe_tup (pa_cons pe_str (pa_cons (pe_ix ix_list (pv 10) pe_int (fun _ _ => rfl)) pa_nil)))))
        h3), ?_⟩
      intro H1 v4 v5 v6 v7 v8 v9 fe1 kp1
      refine ⟨.str (tx s), rfl, tx s, rfl, fun D nD => ?_⟩
      have len : (tx s).cps.size = s.length := tx_len s
      refine lc_tx (H := H1) (walk_str (z := tx s)) (fun _ _ => trivial) (fun i => lost (s.take i) one) rfl (fun i _ => ?_) nD ?_ ?_
      · refine Nat.le_trans (lost_few _ _) ?_
        rw [List.length_take]
        omega
      · rintro i x H2 H3 Qy Qn hi sm2 ⟨rfl, c, hc, rfl⟩ qy qn
        have hc' : s[i]? = some c := by rw [← tx_list s, Array.getElem?_toList]; exact hc
        have step := lost_take (m := one) hc'
        refine ⟨rfl, .str (tx [c]), rfl, .str (tx one), rfl, c, tx one, rfl, rfl, _, rfl, ?_⟩
        rw [tx_list]
        by_cases h : c ∈ one
        · refine noOf (by rw [decide_eq_true h]; rfl) ?_
          rw [if_pos h] at step
          exact qn _ (Same.refl _) step
        · refine yesOf (by rw [decide_eq_false h]; rfl) ?_
          rw [if_neg h] at step
          exact ⟨.str (tx [c]), rfl, qy c _ (Same.refl _) step⟩
      · intro H2 sm hD
        have full : s.take (tx s).cps.size = s := List.take_of_length_le (Nat.le_of_eq len.symm)
        rw [full] at hD
        refine ⟨.ref D, rfl, (by show 0 ≤ sizeLine; decide), fun l nl => ?_⟩
        have s3 : Same H2 (upd H2 l (.lst [])) := same_upd nl
        have hD3 := s3 _ _ hD
        have hD3' := hD3
        rw [ones_ll] at hD3'
        have lowL : Low (lost s one) := fun c hc => hs.small c (lost_in hc)
        refine ⟨_, _, dp_texts (SqL.of hD3'), dp_texts (l := []) (SqL.of upd_same), shaped_texts (low_ones lowL), shaped_texts (l := []) (fun _ h => by cases h), _, rfl, ?_⟩
        have val := eqv_ones (lost s one)
        show if PyData.eqv (.list (((lost s one).map fun c => [c]).map fun m => PyData.str (tx m))) (.list []) = true then _ else _
        rw [val]
        have fe3 : FeedAt K (upd H2 l (.lst [])) g (n + 4) := fe1.same (sm.trans s3)
        have kp3 : Kept g.f H (upd H2 l (.lst [])) := kp1.trans (Kept.of (sm.trans s3))
        by_cases c0 : lost s one = []
        · refine yesOf (decide_eq_true c0) ?_
          have all := lost_nil.mp c0
          refine ⟨⟨_, rfl⟩, .str (tx s), rfl, tx s, rfl, fun D2 nD2 => ?_⟩
          refine lc_tx (H := upd H2 l (.lst [])) (walk_str (z := tx s)) (fun _ _ => trivial) (fun i => back s one |>.take i) rfl (fun i _ => ?_) nD2 ?_ ?_
          · unfold back
            rw [List.length_take, List.length_map]
            omega
          · rintro i x H4 H5 Qy Qn hi sm4 ⟨rfl, c, hc, rfl⟩ qy _
            have hc' : s[i]? = some c := by rw [← tx_list s, Array.getElem?_toList]; exact hc
            have inM : c ∈ one := all c (List.mem_of_getElem? hc')
            have lt : one.idxOf c < s.length := by rw [← hm.1]; exact List.idxOf_lt_length_of_mem inM
            refine ⟨rfl, yes_kept ?_⟩
            refine ⟨.str (tx s), rfl, .str (tx one), rfl, ⟨_, rfl⟩, .str (tx [c]), rfl, tx one, tx [c], one.idxOf c, [], rfl, rfl, occ_first inM, tx s, _, s[one.idxOf c], rfl, rfl, ?_, ?_, qy _ _ (Same.refl _) ?_⟩
            · rw [tx_len]
              exact Nat.le_of_lt (small1000 (by omega))
            · rw [tx_list]
              exact atI_nat (List.getElem?_eq_getElem lt)
            · have hb : (back s one)[i]? = some s[one.idxOf c] := by
                unfold back
                rw [List.getElem?_map, hc']
                show some (s.getD (one.idxOf c) 0) = _
                rw [List.getD_eq_getElem?_getD, List.getElem?_eq_getElem lt]
                rfl
              rw [List.take_add_one, hb]
              rfl
          · intro H4 sm4 hD4
            have bl : (back s one).length = s.length := List.length_map _
            have full2 : (back s one).take (tx s).cps.size = back s one := List.take_of_length_le (by rw [len, bl]; exact Nat.le_refl _)
            rw [full2] at hD4
            refine ⟨tx [], D2, ones (back s one), tx_nil ▸ rfl, rfl, .inl (SqL.of hD4), ?_, ?_⟩
            · rw [ones_sum, ones_len, tx_len, bl]
              simp
              omega
            · rw [ones_join]
              exact p3 H4 v4 v5 v6 v7 v8 _ D (fe3.same sm4) (kp3.trans (Kept.of sm4)) (sm4 _ _ hD3) (.inl ⟨c0, rfl⟩)
        · refine noOf (decide_eq_false c0) ?_
          have pos := List.length_pos_iff.mpr c0
          refine ⟨.ref D, rfl, D, _, 0, _, rfl, rfl, SqL.of hD3, atI_nat (j := 0) (v := .str (tx [(lost s one)[0]])) ?_, (by show 2 ≤ sizeLine; decide), fun t nt => ?_⟩
          · rw [List.getElem?_map]
            unfold ones
            rw [List.getElem?_map, List.getElem?_eq_getElem pos]
            rfl
          · exact p3 _ v4 v5 v6 v7 v8 _ D (fe3.same (same_upd nt)) (kp3.trans (Kept.of (same_upd nt))) (same_upd nt _ _ hD3) (.inr ⟨t, (lost s one)[0], rfl, upd_same, List.getElem?_eq_getElem pos⟩)
    have ml := B.len
    have small : ∀ z : Nat, z ≤ 256 → (z : Int).natAbs.log2 < 1920 := fun z hz => (shown_few z (by omega)).2
    -- what comes behind the reckoning of the place
    obtain ⟨t4, h4, p4⟩ : ∃ t, PSs (cxOf CX0 P w K mg base Ns12 "_law_right" (defScope sRight) f cdv A outer sh H E) ((defBody sRight).drop 3) t ∧
        ∀ (N tm : Nat) (l : Addr) (H1 : Hp), Cyc s one N → N ≤ 256 → H1 l = some (.lst (txs (pws s one N))) → FeedAt K H1 g (n + 3) → Kept g.f H H1 →
          t { nx := fun _ H' => Q .non H', rt := Q } [some (.ref g.f), some (.str (tx s)), some (.str (tx one)), some (.str (tx other)), some (.ref l), some (.int ((pws s one N).idxOf (pw s one N) : Nat)), some (.int (tm : Nat)), some (.int (spot N ((pws s one N).idxOf (pw s one N)) tm : Nat)), none, none, none, none] H1 := by
      refine ⟨_, pss_cons (ps_if (pt_cmpR op_ne (pe_callB call_reprV (by rfl) B.rep (by decide +kernel) (pa_cons (pe_call GW hr rfl gW FW.kp bW .nil pass0 (pa_cons (pv 1) (pa_cons (pv 2) (pa_cons (pv 6) pa_nil)))) pa_nil))
            (pe_callB call_reprV (by rfl) B.rep (by decide +kernel) (pa_cons (pe_ix ix_list (pv 4) (pv 7) (fun _ _ => rfl)) pa_nil)) (nomark _)) (pss_one (ps_ret pe_bl)) pss_nil)
        (pss_cons (ps_if (pt_cmpR op_ne (pe_callB (call_reprD quiet hu64) (by rfl) B.rep (by decide +kernel) (pa_cons (pe_call GR hr rfl gR FR.kp bR .nil pass0 (pa_cons (pv 1) (pa_cons (pv 2) pa_nil))) pa_nil))
            (pe_callB (call_reprD quiet hu64) (by rfl) B.rep (by decide +kernel) (pa_cons (pe_tup (pa_cons (pv 5) (pa_cons (pe_op op_sub (pe_callB call_len_seq (by rfl) ml PySem.boot_len (pa_cons (pv 4) pa_nil)) (pv 5)) pa_nil))) pa_nil)) (nomark _)) (pss_one (ps_ret pe_bl)) pss_nil)
        (pss_cons (ps_for (passes_of rfl) rfl (pi_tup (pe_tup (pa_cons (pe_call GP hr rfl gP FP.kp bP .nil pass0 (pa_cons (pv 0) (pa_cons (pv 4) pa_nil))) (pa_cons (pv 3) pa_nil)))) (pg_name (i := 8) scRight.nd rfl (Or.inl rfl))
          (pss_cons (ps_set (i := 9) scRight.nd rfl (.inl rfl) (pe_ifExp (pt_cmpR op_in_seq (pv 8) (pv 4) (by rfl)) (pe_bm PySem.F.plainAttrs_list PySem.F.slot_list_index PySem.F.type_list_index mt_index (pv 4) (pa_cons (pv 8) pa_nil)) pe_non))
          (pss_one (ps_if (pt_cmpR op_ne (pe_callB call_reprV (by rfl) B.rep (by decide +kernel) (pa_cons (pe_call GT hr rfl gT FT.kp bT .nil pass0 (pa_cons (pv 1) (pa_cons (pv 2) (pa_cons (pv 8) pa_nil)))) pa_nil))
            (pe_callB call_reprV (by rfl) B.rep (by decide +kernel) (pa_cons (pv 9) pa_nil)) (nomark _)) (pss_one (ps_ret pe_bl)) pss_nil))))
        ht)), ?_⟩
      intro N tm l H1 cy few el fe1 kp1
      have fl := first_lt cy
      have sl := spot_lt (n := tm) fl
      have lowP : ∀ i, Low (pw s one i) := fun i => low_of hs (isMap_pw hm i).2
      have fewP : ∀ i, (pw s one i).length ≤ 1000 := fun i => by
        rw [(isMap_pw hm i).1]
        omega
      refine ⟨.str (tx s), rfl, .str (tx one), rfl, .int tm, rfl, s, one, tm, rfl, hs, hm, fun N2 H2 cy2 sm2 => ?_⟩
      cases Cyc.one cy2 cy
      have el2 := sm2 _ _ el
      refine ⟨_, _, rfl, rfl, fits_tx (lowP _) (fewP _), .ref l, rfl, .int (spot N ((pws s one N).idxOf (pw s one N)) tm : Nat), rfl, l, _, _, _, rfl, rfl, SqL.of el2, atI_nat (txs_get (pws_get sl)), _, _, rfl, rfl, fits_tx (lowP _) (fewP _), rfl, _, rfl, noOf (by rw [decide_eq_true rfl]; rfl) ?_⟩
      refine ⟨.str (tx s), rfl, .str (tx one), rfl, s, one, rfl, hs, hm, fun N3 H3 t3a cy3 few3 sm3 et3 => ?_⟩
      cases Cyc.one cy3 cy
      have el3 := sm3 _ _ el2
      generalize (pws s one N).idxOf (pw s one N) = a at fl et3 sl
      have pf := pair_fits (a := a) (b := N - a) (by omega) (by omega)
      refine ⟨t3a, pairD (a : Nat) ((N - a : Nat) : Int), rfl, dp_pair et3, pf.1, pf.2.1, pf.2.2.1, pf.2.2.2, .int a, rfl, .ref l, rfl, l, _, rfl, .inl (SqL.of el3), .int a, rfl, _, _, rfl, rfl, (by show 2 ≤ sizeLine; decide), fun t4a n4 => ?_⟩
      have e4 : (upd H3 t4a (.tup [.int (a : Nat), .int (((txs (pws s one N)).length : Int) - (a : Nat))])) t4a = some (.tup [.int (a : Nat), .int ((N - a : Nat) : Int)]) := by
        rw [upd_same, txs_len, pws_len, Int.ofNat_sub (Nat.le_of_lt fl)]
      refine ⟨t4a, pairD (a : Nat) ((N - a : Nat) : Int), rfl, dp_pair e4, pf.1, pf.2.1, pf.2.2.1, pf.2.2.2, rfl, _, rfl, noOf (by rw [decide_eq_true rfl]; rfl) ?_⟩
      have s4a : Same H1 (upd H3 t4a (.tup [.int (a : Nat), .int (((txs (pws s one N)).length : Int) - (a : Nat))])) := sm2.trans (sm3.trans (same_upd n4))
      have el4 := s4a _ _ el
      refine ⟨.ref g.f, rfl, .ref l, rfl, g, .ref l, n + 3, rfl, fe1.same s4a, by omega, .inr ⟨l, _, rfl, SqL.of el4, ?_, ?_, fun x H5 hx fe5 kp5 => ?_⟩⟩
      · rw [txs_len, pws_len]
        omega
      · rw [txs_len, pws_len]
        omega
      · obtain ⟨m5, hm5, rfl⟩ := List.mem_map.mp hx
        obtain ⟨kvs, ea⟩ := fe1.dict
        have lg : l ≠ g.f := ne_of el ea (by intro z; cases z)
        have el5 := kp5 _ _ lg el4
        refine ⟨.str (tx other), rfl, (by show 2 ≤ sizeLine; decide), fun T nT => ?_⟩
        have s6 : Same H5 (upd H5 T (.tup [.str (tx m5), .str (tx other)])) := same_upd nT
        have kp6 : Kept g.f H (upd H5 T (.tup [.str (tx m5), .str (tx other)])) := (kp1.trans (Kept.of s4a)).trans (kp5.trans (Kept.of s6))
        refine ⟨T, rfl, ⟨_, SqT.of upd_same⟩, ?_⟩
        refine for_it (walk_tup (K := K) (a := T) (xs := [.str (tx m5), .str (tx other)])) (fun i σ H7 => ∃ v8 v9 : Option V, σ = [some (.ref g.f), some (.str (tx s)), some (.str (tx one)), some (.str (tx other)), some (.ref l), some (.int (a : Nat)), some (.int (tm : Nat)), some (.int (spot N a tm : Nat)), v8, v9, none, none] ∧
          Same (upd H5 T (.tup [.str (tx m5), .str (tx other)])) H7) ⟨none, none, rfl, Same.refl _⟩ (fun i σ H7 _ z => ?_) ?_ ?_
        · obtain ⟨_, _, _, s7⟩ := z
          exact SqT.of (s7 _ _ upd_same)
        · rintro i x σ H7 H8 hi ⟨v8, v9, rfl, s7⟩ ⟨rfl, hx7⟩
          obtain ⟨m7, rfl⟩ : ∃ m7 : List Nat, x = .str (tx m7) := by
            match i, hx7 with
            | 0, h => exact ⟨m5, (Option.some.inj h).symm⟩
            | 1, h => exact ⟨other, (Option.some.inj h).symm⟩
          have el7 := s7 _ _ (s6 _ _ el5)
          refine ⟨.str (tx m7), rfl, .ref l, rfl, l, txs (pws s one N), rfl, .inl (SqL.of el7), rfl, txs_flat _, _, rfl, ?_⟩
          show if inV (.str (tx m7)) (txs (pws s one N)) = true then _ else _
          rw [inV_txs]
          by_cases c : m7 ∈ pws s one N
          · have il := List.idxOf_lt_length_of_mem c
            rw [pws_len] at il
            refine yesOf (decide_eq_true c) ?_
            refine ⟨.ref l, rfl, .inl ⟨rfl, _, SqL.of el7⟩, .str (tx m7), rfl, l, txs (pws s one N), _, _, _, rfl, rfl, SqL.of el7, rfl, txs_flat _, txs_at c, by rw [eqV_tx]; exact decide_eq_true rfl, fun i z hi e => txs_before i z hi e, ?_⟩
            refine ⟨.str (tx s), rfl, .str (tx one), rfl, .str (tx m7), rfl, s, one, m7, rfl, hs, hm, fun N8 H8 cy8 sm8 => ?_⟩
            cases Cyc.one cy8 cy
            rw [show placeV (pws s one N) m7 = .int ((pws s one N).idxOf m7 : Nat) from if_pos c]
            exact ⟨_, _, rfl, rfl, small _ (by omega), .int ((pws s one N).idxOf m7 : Nat), rfl, _, _, rfl, rfl, small _ (by omega), rfl, _, rfl, noOf (by rw [decide_eq_true rfl]; rfl) ⟨_, _, rfl, s7.trans sm8⟩⟩
          · refine noOf (decide_eq_false c) ?_
            refine ⟨.str (tx s), rfl, .str (tx one), rfl, .str (tx m7), rfl, s, one, m7, rfl, hs, hm, fun N8 H8 cy8 sm8 => ?_⟩
            cases Cyc.one cy8 cy
            rw [show placeV (pws s one N) m7 = .non from if_neg c]
            exact ⟨_, _, rfl, rfl, trivial, .non, rfl, _, _, rfl, rfl, trivial, rfl, _, rfl, noOf (by rw [decide_eq_true rfl]; rfl) ⟨_, _, rfl, s7.trans sm8⟩⟩
        · rintro σ H7 ⟨v8, v9, rfl, s7⟩
          exact pt H7 _ _ _ _ _ _ ((fe5.same s6).same s7) (kp6.trans (Kept.of s7))
    refine ⟨_, pss_cons (ps_asg (pe_call GA hr rfl gA FA.kp bA .nil pass0 (pa_cons (pv 1) (pa_cons (pv 2) pa_nil))) (pg_tup rfl (pgs_cons (pg_name (i := 4) scRight.nd rfl (.inl rfl)) (pgs_cons (pg_name (i := 5) scRight.nd rfl (.inl rfl)) pgs_nil))))
      (pss_cons (ps_set (i := 6) scRight.nd rfl (.inl rfl) (pe_call GP hr rfl gP FP.kp bP .nil pass0 (pa_cons (pv 0) (pa_cons (pe_lst (pa_cons pe_int (pa_cons pe_int (pa_cons pe_int
          (pa_cons (pe_call GD hr rfl gD FD.kp bD .nil pass0 (pa_cons (pv 0) (pa_cons pe_int pa_nil))) (pa_cons (pe_op op_pow pe_int pe_int)
          (pa_cons (pe_op op_add (pe_op op_pow pe_int pe_int) (pe_call GD hr rfl gD FD.kp bD .nil pass0 (pa_cons (pv 0) (pa_cons pe_int pa_nil)))) pa_nil))))))) pa_nil))))
      (pss_cons (ps_set (i := 7) scRight.nd rfl (.inl rfl) (pe_ifExp (pt_cmpR op_lt (pv 6) (pe_callB call_len_seq (by rfl) ml PySem.boot_len (pa_cons (pv 4) pa_nil)) (nomark _)) (pv 6)
          (pe_op op_add (pv 5) (pe_op op_mod (pe_op op_sub (pv 6) (pv 5)) (pe_op op_sub (pe_callB call_len_seq (by rfl) ml PySem.boot_len (pa_cons (pv 4) pa_nil)) (pv 5))))))
      h4)), ?_⟩
    refine ⟨.str (tx s), rfl, .str (tx one), rfl, s, one, rfl, hs, hm, fun N H1 t l cy few sm1 nt et el => ?_⟩
    have fl := first_lt cy
    refine ⟨t, _, rfl, SqT.of et, rfl, _, _, rfl, _, _, rfl, rfl, ?_⟩
    refine ⟨.ref g.f, rfl, .ref g.f, rfl, g, 13, n, rfl, fe.same sm1, by omega, by decide, by decide, fun d1 H2 d10 d11 fe2 kp2 => ?_⟩
    refine ⟨10, 60, rfl, rfl, ⟨by decide, by decide, by decide⟩, 10, 59, rfl, rfl, ⟨by decide, by decide, by decide⟩, .ref g.f, rfl, g, 60, n + 1, rfl, fe2, by omega, by decide, by decide, fun d2 H3 d20 d21 fe3 kp3 => ?_⟩
    refine ⟨_, _, rfl, rfl, (by show 6 ≤ sizeLine; decide), fun L nL => ?_⟩
    obtain ⟨kvs, ea⟩ := fe.dict
    have lg : l ≠ g.f := ne_of el (sm1 _ _ ea) (by intro z; cases z)
    have s4' : Same H3 (upd H3 L (.lst [.int 0, .int 1, .int 2, .int d1, .int (10 ^ (60 : Int).toNat), .int (10 ^ (59 : Int).toNat + d2)])) := same_upd nL
    refine ⟨g, .ref L, n + 2, rfl, fe3.same s4', by omega, .inr ⟨L, _, rfl, SqL.of upd_same, (by show 0 < 6; decide), (by show 6 ≤ 1000; decide), fun x H5 hx fe5 kp5 => ?_⟩⟩
    have el5 := kp5 _ _ lg (s4' _ _ (kp3 _ _ lg (kp2 _ _ lg el)))
    have kpA : Kept g.f H H5 := (Kept.of sm1).trans (kp2.trans (kp3.trans ((Kept.of s4').trans kp5)))
    obtain ⟨tm, rfl⟩ : ∃ tm : Nat, x = .int (tm : Int) := by
      have nn : ∀ z : Int, 0 ≤ z → ∃ tm : Nat, V.int z = .int (tm : Int) := fun z hz => by
        obtain ⟨tm, e⟩ := Int.eq_ofNat_of_zero_le hz
        exact ⟨tm, by rw [e]⟩
      have b60 : (0 : Int) ≤ 10 ^ (60 : Int).toNat := by decide
      have b59 : (0 : Int) ≤ 10 ^ (59 : Int).toNat := by decide
      rcases List.mem_cons.mp hx with rfl | hx
      · exact ⟨0, rfl⟩
      rcases List.mem_cons.mp hx with rfl | hx
      · exact ⟨1, rfl⟩
      rcases List.mem_cons.mp hx with rfl | hx
      · exact ⟨2, rfl⟩
      rcases List.mem_cons.mp hx with rfl | hx
      · exact nn _ d10
      rcases List.mem_cons.mp hx with rfl | hx
      · exact nn _ b60
      rcases List.mem_cons.mp hx with rfl | hx
      · exact nn _ (by omega)
      cases hx
    have out := p4 N tm l H5 cy few el5 fe5 kpA
    have tl : ((txs (pws s one N)).length : Int) = (N : Int) := by rw [txs_len, pws_len]
    generalize (pws s one N).idxOf (pw s one N) = a at fl out et
    refine ⟨.int tm, rfl, .ref l, rfl, l, _, rfl, .inl (SqL.of el5), _, _, rfl, rfl, _, rfl, ?_⟩
    refine ite2 (fun c => ?_) (fun c => ?_)
    · have lt : tm < N := by
        have := of_decide_eq_true c
        omega
      rw [spot_small lt] at out
      exact ⟨.int tm, rfl, out⟩
    · have ge : ¬ tm < N := fun z => c (decide_eq_true (by rw [tl]; omega))
      refine ⟨.int a, rfl, .int tm, rfl, .int a, rfl, _, _, rfl, rfl, .ref l, rfl, l, _, rfl, .inl (SqL.of el5), .int a, rfl, _, _, rfl, rfl, _, _, rfl, rfl, ?_, _, _, rfl, rfl, ?_⟩
      · show (0 : Int) < ((txs (pws s one N)).length : Int) - (a : Int)
        rw [tl]
        omega
      · have e : (a : Int) + ((tm : Int) - (a : Int)) % (((txs (pws s one N)).length : Int) - (a : Int)) = ((spot N a tm : Nat) : Int) := by
          rw [tl, sub_mod (by omega) (by omega)]
          unfold spot
          rw [if_neg (by omega)]
          omega
        show t4 _ [some (.ref g.f), some (.str (tx s)), some (.str (tx one)), some (.str (tx other)), some (.ref l), some (.int (a : Nat)), some (.int (tm : Nat)), some (.int ((a : Int) + ((tm : Int) - (a : Int)) % (((txs (pws s one N)).length : Int) - (a : Int)))), none, none, none, none] H5
        rw [e]
        exact out
end
end K33
set_option Elab.async false
set_option linter.all false
set_option maxRecDepth 100000
set_option maxHeartbeats 2000000
/-! The law itself. -/
set_option exponentiation.threshold 400
namespace K33
open PySem PySem.Spec PyProof.Rows L2 Bp
section
variable {P : Program} {w : World} {K : PySem.W.Frag} {mg : Str → Option Value} {base : Heap} {C fI : Addr}
abbrev Ns9 : List Str := ["_law_script", "_law_feed_here", "_law_turn", "_law_signs_here", "_law_one", "_law_other", "_law_sign", "_law_due", "_law_k"]
theorem scLaw : FnScope Ns9 ["_law_script"] (defScope sLaw) := ⟨rfl, rfl, rfl, by decide +kernel, rfl, by decide +kernel, by decide +kernel⟩
theorem srcs_in {s one : List Nat} {c i d : Nat} (h : d ∈ srcs s one c i) : d ∈ s := by
  unfold srcs at h
  obtain ⟨p, hp, rfl⟩ := List.mem_map.mp h
  have := List.mem_of_mem_take (List.mem_filter.mp hp).1
  exact (List.of_mem_zip this).1
def spLaw (K : PySem.W.Frag) : Sp := fun vs H Q _ => ∃ (a : Addr) (ns : List Int), vs = [.ref a] ∧ SqL K H a (ns.map V.int) ∧ ns.length ≤ 1000 ∧ ∀ H', Q (.bl true) H'
theorem ok_law {k : Nat} (B : Bltn mg) (DF : Def P w K mg base CX0 (k + 1) "_law_feed" sFeed ["_law_script"] (spFeed K)) (DS : Def P w K mg base CX0 (k + 1) "_law_signs" sSigns ["_law_feed_here", "_law_many"] (spSigns K))
    (DD : Def P w K mg base CX0 (k + 1) "_law_draw" sDraw ["_law_feed_here", "_law_many"] (spDraw K)) (DY : Def P w K mg base CX0 (k + 1) "_law_any_map" sAny ["_law_feed_here", "_law_signs_here"] (spAny K))
    (DG : Def P w K mg base CX0 (k + 1) "together" sTog ["signs", "one", "other"] spTog) (DT : Def P w K mg base CX0 (k + 1) "_law_then" sThen ["_law_signs_here", "_law_one", "_law_other"] spThen)
    (DC : Def P w K mg base CX0 (k + 1) "sources" sSrc ["signs", "one", "sign"] spSrc)
    {fR : Addr} {fdR : FuncData} (FR : Fun K "_law_right" "_law_right" sRight fR fdR) (bR : Binds K fdR ["_law_feed_here", "_law_signs_here", "_law_one", "_law_other"] []) (gR : mg "_law_right" = some (.ref fR))
    (GR : FnG P w K mg base CX0 (k + 1) fR fdR ["_law_feed_here", "_law_signs_here", "_law_one", "_law_other"] (spRight K))
    {f : Addr} {fd : FuncData} (F : Fun K "law" "law" sLaw f fd) : FnG P w K mg base CX0 (k + 2) f fd ["_law_script"] (spLaw K) := by
  obtain ⟨fF, fdF, FF, bF, gF, GF⟩ := DF.ex
  obtain ⟨fS, fdS, FS, bS, gS, GS⟩ := DS.ex
  obtain ⟨fD, fdD, FD, bD, gD, GD⟩ := DD.ex
  obtain ⟨fY, fdY, FY, bY, gY, GY⟩ := DY.ex
  obtain ⟨fG, fdG, FG, bG, gG, GG⟩ := DG.ex
  obtain ⟨fT, fdT, FT, bT, gT, GT⟩ := DT.ex
  obtain ⟨fC, fdC, FC, bC, gC, GC⟩ := DC.ex
  refine okG F scLaw (fun vs H Q E h => ?_) (fun cdv A outer sh H vs Q E hrG h => ?_)
  · obtain ⟨a, ns, rfl, _⟩ := h
    rfl
  · obtain ⟨a, ns, rfl, hS, few, q⟩ := h
    have hr := hrG.room
    have ml := B.len
    have mr := B.rng
    refine ⟨_, pss_cons (ps_set (i := 1) scLaw.nd rfl (.inl rfl) (pe_call GF hr rfl gF FF.kp bF .nil pass0 (pa_cons (pv 0) pa_nil)))
      (pss_cons (ps_for (passes_of rfl) rfl (pi_range1 (by rfl) mr (pa_cons pe_int pa_nil)) (pg_name (i := 2) scLaw.nd rfl (Or.inl rfl))
        (pss_cons (ps_set (i := 3) scLaw.nd rfl (.inr rfl) (pe_call GS hr rfl gS FS.kp bS .nil pass0 (pa_cons (pv 1) (pa_cons (pe_op op_add pe_int (pe_call GD hr rfl gD FD.kp bD .nil pass0 (pa_cons (pv 1) (pa_cons pe_int pa_nil)))) pa_nil))))
        (pss_cons (ps_asg (pe_tup (pa_cons (pe_call GY hr rfl gY FY.kp bY .nil pass0 (pa_cons (pv 1) (pa_cons (pv 3) pa_nil))) (pa_cons (pe_call GY hr rfl gY FY.kp bY .nil pass0 (pa_cons (pv 1) (pa_cons (pv 3) pa_nil))) pa_nil)))
            (pg_tup rfl (pgs_cons (pg_name (i := 4) scLaw.nd rfl (.inr rfl)) (pgs_cons (pg_name (i := 5) scLaw.nd rfl (.inl rfl)) pgs_nil))))
        (pss_cons (ps_if (pt_cmpR op_ne (pe_callB call_reprV (by rfl) B.rep (by decide +kernel) (pa_cons (pe_call GG hr rfl gG FG.kp bG .nil pass0 (pa_cons (pv 3) (pa_cons (pv 4) (pa_cons (pv 5) pa_nil)))) pa_nil))
            (pe_callB call_reprV (by rfl) B.rep (by decide +kernel) (pa_cons (pe_call GT hr rfl gT FT.kp bT .nil pass0 (pa_cons (pv 3) (pa_cons (pv 4) (pa_cons (pv 5) pa_nil)))) pa_nil)) (nomark _)) (pss_one (ps_ret pe_bl)) pss_nil)
        (pss_cons (ps_for (passes_of rfl) rfl (pi_str (pv 3)) (pg_name (i := 6) scLaw.nd rfl (Or.inr rfl))
          (pss_cons (ps_set (i := 7) scLaw.nd rfl (.inl rfl) (pe_join pe_str (pe_lc (own := [("_law_k", 8)]) (g := gName 8) rfl scLaw.nd (pi_range1 (by rfl) mr (pa_cons (pe_callB call_len (by rfl) ml PySem.boot_len (pa_cons (pv 3) pa_nil)) pa_nil))
              (blkOk_by (own := [("_law_k", 8)]) (N := Ns9) (sc := defScope sLaw) (by decide +kernel)) (fun _ _ _ _ _ => pg_name (i := 8) scLaw.nd rfl (Or.inl rfl))
              (fun _ _ _ _ _ => pts_one (pt_cmpR op_eq (pe_ix ix_str (pv 4) (pv 8) (fun _ _ => rfl)) (pv 6) (nomark _))) (fun _ _ _ _ _ => pe_ix ix_str (pv 3) (pv 8) (fun _ _ => rfl)))))
          (pss_one (ps_if (pt_cmpR op_ne (pe_callB call_reprV (by rfl) B.rep (by decide +kernel) (pa_cons (pe_call GC hr rfl gC FC.kp bC .nil pass0 (pa_cons (pv 3) (pa_cons (pv 4) (pa_cons (pv 6) pa_nil)))) pa_nil))
            (pe_callB call_reprV (by rfl) B.rep (by decide +kernel) (pa_cons (pv 7) pa_nil)) (nomark _)) (pss_one (ps_ret pe_bl)) pss_nil))))
        (pss_one (ps_if (pt_not (pt_val (pe_callG GR hrG rfl gR FR.kp bR .nil pass0 (pa_cons (pv 1) (pa_cons (pv 3) (pa_cons (pv 4) (pa_cons (pv 5) pa_nil))))))) (pss_one (ps_ret pe_bl)) pss_nil)))))))
      (pss_one (ps_ret pe_bl))), ?_⟩
    refine ⟨.ref a, rfl, a, ns, rfl, hS, few, fun H0 g ng fe0 sm0 => ?_⟩
    refine ⟨6, rfl, by decide, by decide, ?_⟩
    have e6 : (6 : Int).toNat = 6 := rfl
    rw [e6]
    refine for_it (walk_range (lo := 0) (n := 6)) (fun i σ H1 => ∃ v2 v3 v4 v5 v6 v7 : Option V, σ = [some (.ref a), some (.ref g.f), v2, v3, v4, v5, v6, v7, none] ∧ FeedAt K H1 g (20 * i)) ⟨none, none, none, none, none, none, rfl, fe0⟩ (fun _ _ _ _ _ => trivial) ?_ ?_
    · rintro i x σ H1 H1' hi ⟨v2, v3, v4, v5, v6, v7, rfl, fe1⟩ ⟨rfl, rfl⟩
      refine ⟨.ref g.f, rfl, .ref g.f, rfl, g, 3, 20 * i, rfl, fe1, by omega, by decide, by decide, fun d H2 d0 d1 fe2 kp2 => ?_⟩
      obtain ⟨m, rfl⟩ := Int.eq_ofNat_of_zero_le d0
      refine ⟨2, m, rfl, rfl, g, 2 + m, 20 * i + 1, rfl, by omega, by omega, fe2, by omega, fun s H3 hs fe3 kp3 => ?_⟩
      refine ⟨.ref g.f, rfl, .str (tx s), rfl, g, s, 20 * i + 1 + 2, rfl, hs, fe3, by omega, fun one H4 hm fe4 kp4 => ?_⟩
      refine ⟨.ref g.f, rfl, .str (tx s), rfl, g, s, 20 * i + 1 + 2 + 5, rfl, hs, fe4, by omega, fun other H5 ho fe5 kp5 => ?_⟩
      have s4 := hs.hi
      have s2 := hs.lo
      have fit : ∀ m : List Nat, m.length = s.length → (tx m).length ≤ sizeLine := fun m e => by
        rw [tx_len]
        exact Nat.le_of_lt (small1000 (by omega))
      refine ⟨(by show 2 ≤ sizeLine; decide), fun T nT => ?_⟩
      refine ⟨T, _, rfl, SqT.of upd_same, rfl, _, _, rfl, _, _, rfl, rfl, ?_⟩
      have fe6 := fe5.same (same_upd (o := .tup [.str (tx one), .str (tx other)]) nT)
      have mt := isMap_thn hm ho
      have lowT : Low (thn s one other) := low_of hs mt.2
      have fewT : (thn s one other).length ≤ 1000 := by
        rw [mt.1]
        omega
      refine ⟨.str (tx s), rfl, .str (tx one), rfl, .str (tx other), rfl, s, one, other, rfl, by omega, by rw [hm.1]; omega, ho.1, hm.2, fun H7 sm7 => ?_⟩
      refine ⟨_, _, rfl, rfl, fits_tx lowT fewT, ?_⟩
      refine ⟨.str (tx s), rfl, .str (tx one), rfl, .str (tx other), rfl, s, one, other, rfl, hs, hm, ho, fun H8 sm8 => ?_⟩
      refine ⟨_, _, rfl, rfl, fits_tx lowT fewT, rfl, _, rfl, noOf (by rw [decide_eq_true rfl]; rfl) ?_⟩
      have fe8 := (fe6.same sm7).same sm8
      refine ⟨.str (tx s), rfl, tx s, rfl, ?_⟩
      refine for_it (walk_str (z := tx s)) (fun j σ H9 => ∃ v6 v7 : Option V, σ = [some (.ref a), some (.ref g.f), some (.int (0 + (i : Int))), some (.str (tx s)), some (.str (tx one)), some (.str (tx other)), v6, v7, none] ∧ Same H8 H9) ⟨_, _, rfl, Same.refl _⟩ (fun _ _ _ _ _ => trivial) ?_ ?_
      · rintro j x σ H9 H10 hj ⟨v6, v7, rfl, sm9⟩ ⟨rfl, c, hc, rfl⟩
        refine ⟨⟨_, rfl⟩, .str (tx s), rfl, .str (tx s), s.length, rfl, ⟨fit s rfl, (tx_len s).symm⟩, s.length, rfl, by omega, by omega, fun D nD => ?_⟩
        have tn : (s.length : Int).toNat = s.length := Int.toNat_natCast _
        rw [tn]
        refine lc_tx (H := H10) (walk_range (lo := 0) (n := s.length)) (fun _ _ => trivial) (fun i => srcs s one c i) rfl (fun i _ => Nat.le_trans (srcs_few s one c i) (by omega)) nD ?_ ?_
        · rintro e y H11 H12 Qy Qn he sm ⟨rfl, rfl⟩ qy qn
          have e1 : e < one.length := by rw [hm.1]; exact he
          have step := srcs_succ (c := c) (List.getElem?_eq_getElem he) (List.getElem?_eq_getElem e1)
          refine ⟨rfl, .str (tx one), rfl, .int (0 + (e : Int)), rfl, tx one, _, one[e], rfl, rfl, fit one hm.1, ?_, .str (tx [c]), rfl, rfl, _, rfl, ?_⟩
          · rw [tx_list, Int.zero_add]
            exact atI_nat (List.getElem?_eq_getElem e1)
          · by_cases h : one[e] = c
            · refine yesOf (by rw [h]; exact decide_eq_true rfl) ?_
              rw [if_pos h] at step
              refine ⟨.str (tx s), rfl, .int (0 + (e : Int)), rfl, tx s, _, s[e], rfl, rfl, fit s rfl, ?_, qy s[e] _ (Same.refl _) step⟩
              rw [tx_list, Int.zero_add]
              exact atI_nat (List.getElem?_eq_getElem he)
            · have ne : ¬ V.str ⟨#[one[e]]⟩ = V.str (tx [c]) := fun z => h (List.singleton_inj.mp (tx_inj (a := [one[e]]) (V.str.inj z)))
              refine noOf (decide_eq_false ne) ?_
              rw [if_neg h] at step
              exact qn _ (Same.refl _) step
        · intro H11 sm hD
          have few' := srcs_few s one c s.length
          have lowS : Low (srcs s one c s.length) := low_of hs fun d hd => srcs_in hd
          refine ⟨tx [], D, ones (srcs s one c s.length), tx_nil ▸ rfl, rfl, .inl (SqL.of hD), ?_, ?_⟩
          · rw [ones_sum, ones_len, tx_len]
            simp
            omega
          · rw [ones_join]
            refine ⟨.str (tx s), rfl, .str (tx one), rfl, .str (tx [c]), rfl, s, one, c, rfl, by omega, hm.1, fun H12 sm12 => ?_⟩
            exact ⟨_, _, rfl, rfl, fits_tx lowS (by omega), .str (tx (srcs s one c s.length)), rfl, _, _, rfl, rfl, fits_tx lowS (by omega), rfl, _, rfl, noOf (by rw [decide_eq_true rfl]; rfl) ⟨_, _, rfl, sm9.trans (sm.trans sm12)⟩⟩
      · rintro σ H9 ⟨v6, v7, rfl, sm9⟩
        refine ⟨.ref g.f, rfl, .str (tx s), rfl, .str (tx one), rfl, .str (tx other), rfl, g, s, one, other, 20 * i + 1 + 2 + 5 + 5, rfl, hs, hm, ho, fe8.same sm9, by omega, fun H10 fe10 _ => ?_⟩
        exact ⟨true, rfl, noOf rfl ⟨_, _, _, _, _, _, rfl, fe10.le (by omega)⟩⟩
    · rintro σ H1 ⟨v2, v3, v4, v5, v6, v7, rfl, fe1⟩
      exact q H1
end
end K33
set_option Elab.async false
set_option linter.all false
set_option maxRecDepth 100000
set_option maxHeartbeats 2000000
/-! What the top has written, and the end. -/
set_option exponentiation.threshold 400
namespace K33
open PySem PySem.Spec PyProof.Rows L2 Bp
/-- a def of the text stands at the top -/
structure Is (K : PySem.W.Frag) (x : Str) (st : Stmt) : Prop where
  ex : ∃ (f : Addr) (fd : FuncData), PySem.W.nsIn K mainGlobals x = some (some (.ref f)) ∧ Fun K x x st f fd
theorem is_mk {K : PySem.W.Frag} {x : Str} {st : Stmt} {f : Addr} {oc : Value} {od an : Option Addr} {osl : Array (Option Value)} {kV doc pm cdv ct : Value} (a : PySem.W.nsIn K mainGlobals x = some (some (.ref f)))
    (l : K.lookup f = some ⟨oc, od, .func (PySem.W.fnOf x x (defArgs st) (defBody st) (defScope st) .none kV doc pm an cdv ct), osl⟩) (c : PySem.W.codeIn K cdv x = true) (k : PySem.W.keepIn K (.ref f) = true) : Is K x st := ⟨⟨f, _, a, fun_mk l c k⟩⟩
/-- an error of the class at S is what «except S» names -/
theorem exm_self {K : PySem.W.Frag} {S : Addr} (h1 : PySem.W.subIn K (.ref S) (.type "BaseException") = some true) (h2 : PySem.W.isClsIn K S = true) (h3 : PySem.W.typeIn K (.ref S) = some (.type "type")) (h4 : PySem.W.subIn K (.ref S) (.ref S) = some true) :
    PySem.W.exmOne K (.ref S) (.ref S) = some true := by
  have e1 : (PySem.W.subIn K (.ref S) (.type "BaseException") == some true) = true := by rw [h1] <;> rfl
  have e2 : ((PySem.W.clsIn K S).isSome && PySem.W.typeIn K (.ref S) == some (.type "type")) = true := by
    have h2' : (PySem.W.clsIn K S).isSome = true := h2
    rw [h2', h3] <;> rfl
  show (if (PySem.W.subIn K (.ref S) (.type "BaseException") == some true) = true then (if ((PySem.W.clsIn K S).isSome && PySem.W.typeIn K (.ref S) == some (.type "type")) = true then PySem.W.subIn K (.ref S) (.ref S) else none) else none) = some true
  rw [if_pos e1, if_pos e2]
  exact h4
/-- the class NotOne stands at the top -/
structure IsNotOne (K : PySem.W.Frag) : Prop where
  ex : ∃ (C fI : Addr) (fdI : FuncData), PySem.W.nsIn K mainGlobals "NotOne" = some (some (.ref C)) ∧ Fun K "__init__" "NotOne.__init__" sInit fI fdI ∧ ∀ mg : Str → Option Value, mg "NotOne" = some (.ref C) → NotOneTxt K mg C fI
theorem notOne_mk {K : PySem.W.Frag} {C f1 : Addr} {nm q : Str} {N : Addr} {bs : List Value} {sn : List Str} {sub : List Value} {ab : Bool} {col : Option Bool} {dd : Option Addr} {m0 m1 m2 m3 m5 : Option Value} {oc1 kV1 dc1 pm1 cd1 ct1 : Value} {od1 an1 : Option Addr} {sl1 : Array (Option Value)}
    (aC : PySem.W.nsIn K mainGlobals "NotOne" = some (some (.ref C))) (xL : K.lookup C = some (excClassObj nm q C N bs leTail true sn sub ab col dd m0 m1 m2 m3 m5 "LookupError.__new__"))
    (sa : PySem.W.findIn K (.ref C) "__setattr__" = some (some (.builtin "object.__setattr__"))) (ga : PySem.W.findIn K (.ref C) "__getattribute__" = some (some (.builtin "BaseException.__getattribute__"))) (gg : PySem.W.findIn K (.ref C) "__getattr__" = some none) (nb : PySem.W.findIn K (.ref C) "sign" = some none)
    (a1 : PySem.W.findIn K (.ref C) "__init__" = some (some (.ref f1))) (t1 : PySem.W.typeIn K (.ref f1) = some (.type "function"))
    (l1 : K.lookup f1 = some ⟨oc1, od1, .func (PySem.W.fnOf "__init__" "NotOne.__init__" (defArgs sInit) (defBody sInit) (defScope sInit) .none kV1 dc1 pm1 an1 cd1 ct1), sl1⟩) (c1 : PySem.W.codeIn K cd1 "NotOne.__init__" = true) (k1 : PySem.W.keepIn K (.ref f1) = true)
    (kC : PySem.W.keepIn K (.ref C) = true) (eC : PySem.W.subIn K (.ref C) (.type "BaseException") = some true) (uC : PySem.W.subIn K (.ref C) (.type "LookupError") = some true) (tC : PySem.W.typeIn K (.ref C) = some (.type "type")) (hC : PySem.W.hasDictIn K C = true) (iC : PySem.W.isClsIn K C = true)
    (sC : PySem.W.subIn K (.ref C) (.ref C) = some true) : IsNotOne K :=
  ⟨⟨C, f1, _, aC, fun_mk l1 c1 k1, fun mg gC => ⟨⟨⟨nm, q, N, bs, sn, sub, ab, col, dd, m0, m1, m2, m3, m5, xL⟩, sa, eC, tC, kC⟩, ⟨ga, gg, eC, hC⟩, gC, nb, a1, t1, uC, exm_self eC iC tC sC⟩⟩⟩
section
variable {P : Program} {w : World} {K : PySem.W.Frag} {mg : Str → Option Value} {base : Heap}
theorem defOf {CX : CXT} {k : Nat} {x : Str} {st : Stmt} {ps : List Str} {sp : Sp} {f : Addr} {fd : FuncData} (F : Fun K x x st f fd) (b : Binds K fd ps []) (g : mg x = some (.ref f)) (h : FnOk P w K mg base CX k f fd ps sp) : Def P w K mg base CX k x st ps sp := ⟨⟨f, fd, F, b, g, h⟩⟩
end
theorem all_mk {l : PySem.W.OpenLaw} {w : World} {K : PySem.W.Frag} {h : Heap} {mg : Str → Option Value} {fa : Addr} (X : K.In h) (G : h.Ns mainGlobals mg) (hfa : mg "law" = some (.ref fa)) (iN : IsNotOne K)
    (iTog : Is K "together" sTog) (iPows : Is K "powers" sPows) (iPow : Is K "power" sPow) (iRound : Is K "map_round" sRound) (iTimes : Is K "times_to" sTimes) (iOne : Is K "is_one_to_one" sIsOne) (iTurn : Is K "turned_map" sTurn) (iSrc : Is K "sources" sSrc)
    (iFeed : Is K "_law_feed" sFeed) (iDraw : Is K "_law_draw" sDraw) (iPick : Is K "_law_pick" sPick) (iSigns : Is K "_law_signs" sSigns) (iMixed : Is K "_law_mixed" sMixed) (iAny : Is K "_law_any_map" sAny) (iThen : Is K "_law_then" sThen) (iAll : Is K "_law_all_powers" sAll)
    (iLT : Is K "_law_turned" sLTurned) (iRight : Is K "_law_right" sRight) (iLaw : Is K "law" sLaw)
    (zLen : PySem.W.nsIn K mainGlobals "len" = some none) (zAbs : PySem.W.nsIn K mainGlobals "abs" = some none) (zRng : PySem.W.nsIn K mainGlobals "range" = some none) (zRep : PySem.W.nsIn K mainGlobals "repr" = some none) (zSrt : PySem.W.nsIn K mainGlobals "sorted" = some none)
    (zLst : PySem.W.nsIn K mainGlobals "list" = some none) (zZip : PySem.W.nsIn K mainGlobals "zip" = some none) (zIns : PySem.W.nsIn K mainGlobals "isinstance" = some none) (zLe : PySem.W.nsIn K mainGlobals "LookupError" = some none) :
    ∃ fd : FuncData, (∀ (s : Shared) (v : Value), BindsTo s fd ⟨[v], []⟩ [("_law_script", v)]) ∧ ∀ base : Heap, K.In base → base.Ns mainGlobals mg → FnG l.prog w K mg base CX0 6 fa fd ["_law_script"] (spLaw K) := by
  obtain ⟨C, fI, fdI, aC, FI, hN⟩ := iN.ex
  have T : NotOneTxt K mg C fI := hN mg (PySem.W.mg_of X G aC)
  obtain ⟨f3, fd3, a3, F3⟩ := iTog.ex
  obtain ⟨f4, fd4, a4, F4⟩ := iPows.ex
  obtain ⟨f5, fd5, a5, F5⟩ := iPow.ex
  obtain ⟨f6, fd6, a6, F6⟩ := iRound.ex
  obtain ⟨f7, fd7, a7, F7⟩ := iTimes.ex
  obtain ⟨f8, fd8, a8, F8⟩ := iOne.ex
  obtain ⟨f9, fd9, a9, F9⟩ := iTurn.ex
  obtain ⟨f10, fd10, a10, F10⟩ := iSrc.ex
  obtain ⟨f12, fd12, a12, F12⟩ := iFeed.ex
  obtain ⟨f13, fd13, a13, F13⟩ := iDraw.ex
  obtain ⟨f14, fd14, a14, F14⟩ := iPick.ex
  obtain ⟨f15, fd15, a15, F15⟩ := iSigns.ex
  obtain ⟨f16, fd16, a16, F16⟩ := iMixed.ex
  obtain ⟨f17, fd17, a17, F17⟩ := iAny.ex
  obtain ⟨f18, fd18, a18, F18⟩ := iThen.ex
  obtain ⟨f19, fd19, a19, F19⟩ := iAll.ex
  obtain ⟨f20, fd20, a20, F20⟩ := iLT.ex
  obtain ⟨f21, fd21, a21, F21⟩ := iRight.ex
  obtain ⟨f22, fd22, a22, F22⟩ := iLaw.ex
  have e := hfa.symm.trans (PySem.W.mg_of X G a22)
  cases e
  have bI := FI.binds (ps := ["self", "sign"]) fun _ _ _ _ _ _ us hl => match us, hl with | [_, _], _ => rfl
  have b3 := F3.binds (ps := ["signs", "one", "other"]) fun _ _ _ _ _ _ us hl => match us, hl with | [_, _, _], _ => rfl
  have b4 := F4.binds (ps := ["signs", "one"]) fun _ _ _ _ _ _ us hl => match us, hl with | [_, _], _ => rfl
  have b5 := F5.binds (ps := ["signs", "one", "times"]) fun _ _ _ _ _ _ us hl => match us, hl with | [_, _, _], _ => rfl
  have b6 := F6.binds (ps := ["signs", "one"]) fun _ _ _ _ _ _ us hl => match us, hl with | [_, _], _ => rfl
  have b7 := F7.binds (ps := ["signs", "one", "other"]) fun _ _ _ _ _ _ us hl => match us, hl with | [_, _, _], _ => rfl
  have b8 := F8.binds (ps := ["signs", "one"]) fun _ _ _ _ _ _ us hl => match us, hl with | [_, _], _ => rfl
  have b9 := F9.binds (ps := ["signs", "one"]) fun _ _ _ _ _ _ us hl => match us, hl with | [_, _], _ => rfl
  have b10 := F10.binds (ps := ["signs", "one", "sign"]) fun _ _ _ _ _ _ us hl => match us, hl with | [_, _, _], _ => rfl
  have b12 := F12.binds (ps := ["_law_script"]) fun _ _ _ _ _ _ us hl => match us, hl with | [_], _ => rfl
  have b13 := F13.binds (ps := ["_law_feed_here", "_law_many"]) fun _ _ _ _ _ _ us hl => match us, hl with | [_, _], _ => rfl
  have b14 := F14.binds (ps := ["_law_feed_here", "_law_some"]) fun _ _ _ _ _ _ us hl => match us, hl with | [_, _], _ => rfl
  have b15 := F15.binds (ps := ["_law_feed_here", "_law_many"]) fun _ _ _ _ _ _ us hl => match us, hl with | [_, _], _ => rfl
  have b16 := F16.binds (ps := ["_law_feed_here", "_law_signs_here"]) fun _ _ _ _ _ _ us hl => match us, hl with | [_, _], _ => rfl
  have b17 := F17.binds (ps := ["_law_feed_here", "_law_signs_here"]) fun _ _ _ _ _ _ us hl => match us, hl with | [_, _], _ => rfl
  have b18 := F18.binds (ps := ["_law_signs_here", "_law_one", "_law_other"]) fun _ _ _ _ _ _ us hl => match us, hl with | [_, _, _], _ => rfl
  have b19 := F19.binds (ps := ["_law_signs_here", "_law_one"]) fun _ _ _ _ _ _ us hl => match us, hl with | [_, _], _ => rfl
  have b20 := F20.binds (ps := ["_law_signs_here", "_law_one"]) fun _ _ _ _ _ _ us hl => match us, hl with | [_, _], _ => rfl
  have b21 := F21.binds (ps := ["_law_feed_here", "_law_signs_here", "_law_one", "_law_other"]) fun _ _ _ _ _ _ us hl => match us, hl with | [_, _, _, _], _ => rfl
  have g3 := PySem.W.mg_of X G a3
  have g4 := PySem.W.mg_of X G a4
  have g5 := PySem.W.mg_of X G a5
  have g6 := PySem.W.mg_of X G a6
  have g7 := PySem.W.mg_of X G a7
  have g8 := PySem.W.mg_of X G a8
  have g9 := PySem.W.mg_of X G a9
  have g10 := PySem.W.mg_of X G a10
  have g12 := PySem.W.mg_of X G a12
  have g13 := PySem.W.mg_of X G a13
  have g14 := PySem.W.mg_of X G a14
  have g15 := PySem.W.mg_of X G a15
  have g16 := PySem.W.mg_of X G a16
  have g17 := PySem.W.mg_of X G a17
  have g18 := PySem.W.mg_of X G a18
  have g19 := PySem.W.mg_of X G a19
  have g20 := PySem.W.mg_of X G a20
  have g21 := PySem.W.mg_of X G a21
  have yLen := PySem.W.mg_none_of X G zLen
  have yAbs := PySem.W.mg_none_of X G zAbs
  have yRng := PySem.W.mg_none_of X G zRng
  have yRep := PySem.W.mg_none_of X G zRep
  have ySrt := PySem.W.mg_none_of X G zSrt
  have yLst := PySem.W.mg_none_of X G zLst
  have yZip := PySem.W.mg_none_of X G zZip
  have yIns := PySem.W.mg_none_of X G zIns
  have yLe := PySem.W.mg_none_of X G zLe
  have B : Bltn mg := ⟨yLen, yRng, yRep⟩
  obtain ⟨oc, od, kV, doc, pm, an, cdv, ct, osl, rfl, lk, hcd⟩ := id F22.ex
  refine ⟨PySem.W.fnOf "law" "law" (defArgs sLaw) (defBody sLaw) (defScope sLaw) .none kV doc pm an cdv ct, fun s v => .of_eq rfl, fun base _ _ => ?_⟩
  have Draw : ∀ k, Drw l.prog w K mg base (k + 1) f13 fd13 := fun k => ok_draw F13 yLen yAbs
  have Pick : ∀ k, Pck l.prog w K mg base (k + 2) f14 fd14 := fun k => ok_pick F14 F13 b13 g13 (Draw k) yLen
  have Pows : ∀ k, FnOk l.prog w K mg base CX0 (k + 2) f4 fd4 ["signs", "one"] spPows := fun k => ok_pows F4 F3 b3 g3
  have Then : ∀ k, FnOk l.prog w K mg base CX0 (k + 1) f18 fd18 ["_law_signs_here", "_law_one", "_law_other"] spThen := fun k => ok_then F18 yLen yRng
  have Turn : FnOk l.prog w K mg base (L2.CX l.prog w) 3 f9 fd9 ["signs", "one"] (spTurn C) := ok_turn (k := 0) F9 T FI bI
  have Right : FnG l.prog w K mg base CX0 5 f21 fd21 ["_law_feed_here", "_law_signs_here", "_law_one", "_law_other"] (spRight K) :=
    ok_right (k := 4) B (defOf F19 b19 g19 (ok_all F19 F18 b18 g18 (Then 2))) (defOf F14 b14 g14 (Pick 2)) (defOf F13 b13 g13 (Draw 3)) (defOf F5 b5 g5 (ok_pow F5 F4 b4 g4 (Pows 1) yLen)) (defOf F6 b6 g6 (ok_round F6 F4 b4 g4 (Pows 1) yLen))
      (defOf F7 b7 g7 (ok_times F7 F4 b4 g4 (Pows 1))) (defOf F8 b8 g8 (ok_isOne F8 ySrt yLst)) (defOf F20 b20 g20 (ok_lturned F20 T F9 b9 g9 Turn yIns yLe)) F21
  exact ok_law (k := 4) B (defOf F12 b12 g12 (ok_feed F12)) (defOf F15 b15 g15 (ok_signs F15 F13 b13 g13 (Draw 3) F14 b14 g14 (Pick 2) yRng ySrt)) (defOf F13 b13 g13 (Draw 4))
    (defOf F17 b17 g17 (ok_any F17 F13 b13 g13 (Draw 3) F14 b14 g14 (Pick 2) F16 b16 g16 (ok_mixed F16 F13 b13 g13 (Draw 2) yLen yLst yRng) yLen yRng))
    (defOf F3 b3 g3 (ok_tog F3)) (defOf F18 b18 g18 (Then 4)) (defOf F10 b10 g10 (ok_src F10 yZip)) F21 b21 g21 Right F22
end K33
set_option Elab.async false
set_option linter.all false
open PySem PySem.W PyProof.Rows
set_option maxRecDepth 100000 in
set_option maxHeartbeats 0 in
theorem PySem.Challenge.cw_bandprint_k33_maps_of_signs_holds : PySem.Challenge.rw_bandprint_k33_maps_of_signs.Holds := by
  w_on; o_law; k_head; (case hw => w_witness2)
  k_fill
  refine Bp.walkG (l := PySem.Challenge.rw_bandprint_k33_maps_of_signs) (n := 63) (k := 6) (x := "_law_script") (CX := fun _ => L2.CX0) (sp := fun w => K33.spLaw _) rfl (by decide) rfl (Bp.roomG_caller ⟨rfl, by decide, by decide⟩) (fun w h Y => PySem.W.kIn_of Y) ?F (fun w H a ns hl _ hS => ⟨a, ns, rfl, hS, Nat.le_trans hl (by decide), fun _ => rfl⟩) fun _ _ _ _ _ z => z
  case F =>
    intro w mg fa h KX G hmg
    refine' K33.all_mk KX G hmg ?iN ?iTog ?iPows ?iPow ?iRound ?iTimes ?iOne ?iTurn ?iSrc ?iFeed ?iDraw ?iPick ?iSigns ?iMixed ?iAny ?iThen ?iAll ?iLT ?iRight ?iLaw ?zLen ?zAbs ?zRng ?zRep ?zSrt ?zLst ?zZip ?zIns ?zLe
    case iN =>
      refine' K33.notOne_mk ?aC ?xL ?sa ?ga ?gg ?nb ?a1 ?t1 ?l1 ?c1 ?k1 ?kC ?eC ?uC ?tC ?hC ?iC ?sC
      (case aC => k_is); (case xL => k_is); (case sa => k_is); (case ga => k_is); (case gg => k_is); (case nb => k_is)
      (case a1 => k_is); (case t1 => k_is); (case l1 => k_is); (case c1 => k_is); (case k1 => k_is)
      (case kC => k_is); (case eC => k_is); (case uC => k_is); (case tC => k_is); (case hC => k_is); (case iC => k_is); (case sC => first | rfl | k_is)
    case iTog =>
      refine' K33.is_mk ?a ?l ?c ?k
      (case a => k_is); (case l => k_is); (case c => k_is); (case k => k_is)
    case iPows =>
      refine' K33.is_mk ?a ?l ?c ?k
      (case a => k_is); (case l => k_is); (case c => k_is); (case k => k_is)
    case iPow =>
      refine' K33.is_mk ?a ?l ?c ?k
      (case a => k_is); (case l => k_is); (case c => k_is); (case k => k_is)
    case iRound =>
      refine' K33.is_mk ?a ?l ?c ?k
      (case a => k_is); (case l => k_is); (case c => k_is); (case k => k_is)
    case iTimes =>
      refine' K33.is_mk ?a ?l ?c ?k
      (case a => k_is); (case l => k_is); (case c => k_is); (case k => k_is)
    case iOne =>
      refine' K33.is_mk ?a ?l ?c ?k
      (case a => k_is); (case l => k_is); (case c => k_is); (case k => k_is)
    case iTurn =>
      refine' K33.is_mk ?a ?l ?c ?k
      (case a => k_is); (case l => k_is); (case c => k_is); (case k => k_is)
    case iSrc =>
      refine' K33.is_mk ?a ?l ?c ?k
      (case a => k_is); (case l => k_is); (case c => k_is); (case k => k_is)
    case iFeed =>
      refine' K33.is_mk ?a ?l ?c ?k
      (case a => k_is); (case l => k_is); (case c => k_is); (case k => k_is)
    case iDraw =>
      refine' K33.is_mk ?a ?l ?c ?k
      (case a => k_is); (case l => k_is); (case c => k_is); (case k => k_is)
    case iPick =>
      refine' K33.is_mk ?a ?l ?c ?k
      (case a => k_is); (case l => k_is); (case c => k_is); (case k => k_is)
    case iSigns =>
      refine' K33.is_mk ?a ?l ?c ?k
      (case a => k_is); (case l => k_is); (case c => k_is); (case k => k_is)
    case iMixed =>
      refine' K33.is_mk ?a ?l ?c ?k
      (case a => k_is); (case l => k_is); (case c => k_is); (case k => k_is)
    case iAny =>
      refine' K33.is_mk ?a ?l ?c ?k
      (case a => k_is); (case l => k_is); (case c => k_is); (case k => k_is)
    case iThen =>
      refine' K33.is_mk ?a ?l ?c ?k
      (case a => k_is); (case l => k_is); (case c => k_is); (case k => k_is)
    case iAll =>
      refine' K33.is_mk ?a ?l ?c ?k
      (case a => k_is); (case l => k_is); (case c => k_is); (case k => k_is)
    case iLT =>
      refine' K33.is_mk ?a ?l ?c ?k
      (case a => k_is); (case l => k_is); (case c => k_is); (case k => k_is)
    case iRight =>
      refine' K33.is_mk ?a ?l ?c ?k
      (case a => k_is); (case l => k_is); (case c => k_is); (case k => k_is)
    case iLaw =>
      refine' K33.is_mk ?a ?l ?c ?k
      (case a => k_is); (case l => k_is); (case c => k_is); (case k => k_is)
    case zLen => k_is
    case zAbs => k_is
    case zRng => k_is
    case zRep => k_is
    case zSrt => k_is
    case zLst => k_is
    case zZip => k_is
    case zIns => k_is
    case zLe => k_is


