namespace Go.Proofs.YtiopfihjmkfdmabGreatDoor
theorem À{p:Prop}(h:p:=by omega):p:=h
theorem Ä{p:Prop}(h:p:=by simp):p:=h
theorem É{p:Prop}(h:p:=by decide):p:=h
theorem Ê{p:Prop}(h:p:=by rfl):p:=h
end Go.Proofs.YtiopfihjmkfdmabGreatDoor
